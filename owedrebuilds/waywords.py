"""The words of a way: how they are read, and how they are written."""

from owedrebuilds.errors import BadWay

MOST_STEPS = 12


def read_words(schema, text):
    """Four lists with an item for each word: word without flags, table reached, hop, flags.

    A hop is (back, table, link): whether the step goes back, and the link that it uses;
    that of the first word, which is no step, is None.
    """
    heads = []
    tables = []
    hops = []
    asked = []
    for at, word in enumerate(text.split(" ")):
        head = word.partition("[")[0]
        hop, table = _place(schema, tables, head)
        flags = _flags(schema, table, word[len(head):])
        if at > MOST_STEPS or table is None or flags is None:
            raise BadWay(at)
        heads.append(head)
        tables.append(table)
        hops.append(hop)
        asked.append(flags)
    return (heads, tables, hops, asked)


def write_words(heads, asked):
    """The text of a way, from its words without flags and the flags of each position."""
    return " ".join([head + _brackets(flags) for head, flags in zip(heads, asked)])


def step_back(table, link):
    """The word of the step from a row to those of table whose link leads to it."""
    return f"~{table}.{link}"


def _place(schema, tables, head):
    """The hop of a word behind a way through these tables, and the table that it reaches.

    The table is None if the word means nothing there.
    """
    if not tables:
        return (None, head if head in schema else None)
    hop = _hop(schema, tables[-1], head)
    if hop is None:
        return (None, None)
    back, owner, link = hop
    return (hop, owner if back else schema.target(owner, link))


def _hop(schema, table, head):
    """The hop that a word means at a row of table; None if it means none."""
    if not head.startswith("~"):
        return (False, table, head) if _is_link(schema, table, head) else None
    owner, _, link = head[1:].partition(".")
    if not _is_link(schema, owner, link) or schema.target(owner, link) != table:
        return None
    return (True, owner, link)


def _is_link(schema, table, column):
    return (table, column) in schema and schema.kind(table, column) == "link"


def _flags(schema, table, brackets):
    """The flags in the brackets behind a word, ascending; None if they are wrong."""
    if brackets == "":
        return ()
    names = brackets[1:-1].split(",")
    if not brackets.endswith("]") or len(set(names)) < len(names):
        return None
    if not all([_is_flag(schema, table, name) for name in names]):
        return None
    return tuple(sorted(names))


def _is_flag(schema, table, column):
    return (table, column) in schema and schema.kind(table, column) == "flag"


def _brackets(flags):
    return "[" + ",".join(flags) + "]" if flags else ""
