"""The words of a way: how they are read, and how they are written."""

from owedrebuilds.errors import BadWay

MOST_STEPS = 12


def read_words(schema, text):
    """Four lists with an item for each word: word without flags, table reached, hop, flags.

    A hop is (back, table, link): whether the step goes back, and the link that it uses;
    that of the first word, which is no step, is None.
    """
    heads = []
    tables = []
    hops = []
    asked = []
    for at, word in enumerate(text.split(" ")):
        head, bracket, names = word.partition("[")
        if at == 0:
            place = (None, head) if head in schema else None
        else:
            place = schema.step_from(tables[-1], head)
        if at > MOST_STEPS or place is None:
            raise BadWay(at)
        hop, table = place
        flags = _flags(schema, table, names) if bracket else ()
        if flags is None:
            raise BadWay(at)
        heads.append(head)
        tables.append(table)
        hops.append(hop)
        asked.append(flags)
    return (heads, tables, hops, asked)


def write_words(heads, asked):
    """The text of a way, from its words without flags and the flags of each position."""
    return " ".join([head + brackets(flags) for head, flags in zip(heads, asked)])


def all_flags(flags, more):
    """Two tuples of flags as one, ascending."""
    return tuple(sorted(set([*flags, *more])))


def hop_word(hop):
    """The word of a hop: the link along which it goes, or the step back against it."""
    back, table, link = hop
    return f"~{table}.{link}" if back else link


def turned(hop):
    """The hop the other way."""
    back, table, link = hop
    return (not back, table, link)


def brackets(flags):
    """What stands behind a word for the flags that are asked at its position."""
    return "[" + ",".join(flags) + "]" if flags else ""


def _flags(schema, table, text):
    """The flags of a table behind a bracket, ascending; None if they are wrong."""
    if not text.endswith("]"):
        return None
    names = text[:-1].split(",")
    found = tuple([flag for flag in schema.flags(table) if flag in names])
    # A name that is no flag, or occurs twice, is one too many.
    return found if len(found) == len(names) else None
