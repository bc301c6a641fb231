"""Ways: paths along links and back, and how they go through stores."""

from owedrebuilds.cellkinds import full_cells
from owedrebuilds.errors import BadWay, Mismatch, TooMany
from owedrebuilds.paths import first_path, is_path, joined, onward_keys
from owedrebuilds.plain import is_key
from owedrebuilds.wayforms import form
from owedrebuilds.waywords import MOST_STEPS, all_flags, hop_word, read_words, turned, write_words


class Way:
    """A table and up to twelve steps from it, with the flags that are asked on the way.

    Beside what the interface lists, `hops` has for each step (back, table, link): whether
    it goes back, and the link along or against which it goes.
    """

    def __init__(self, schema, text):
        if not isinstance(text, str):
            raise BadWay(-1)
        heads, tables, hops, asked = read_words(schema, text)
        self.schema = schema
        self.start = tables[0]
        self.end = tables[-1]
        self.tables = tuple(tables)
        self.asked = tuple(asked)
        self.steps = tuple(heads[1:])
        self.hops = tuple(hops[1:])

    @classmethod
    def of(cls, schema, *words):
        """The way that these words write."""
        return cls(schema, " ".join(words))

    @property
    def is_straight(self):
        """Whether all positions have different tables."""
        return len(set(self.tables)) == len(self.tables)

    def __call__(self, store, key):
        """The keys of the rows that the way joins with a row of the start, ascending."""
        return joined(self, store.rows(), key)

    def trails(self, store, key):
        """All trails that begin with a row, ascending."""
        rows = store.rows()
        onward = onward_keys(self, rows)
        pending = [(key,)] if joined(self, rows, key) else []
        while pending:
            trail = pending.pop()
            if len(trail) == len(self.tables):
                yield trail
            else:
                pending.extend([trail + (there,) for there in onward[len(trail) - 1][trail[-1]]])

    def first_trail(self, store, key, end):
        """The first trail, ascending, from one row to another one, or None."""
        return first_path(self, store.rows(), key, end)

    def is_trail(self, store, thing):
        """Whether any value is a trail of the way in the store."""
        if not isinstance(thing, tuple) or len(thing) != len(self.tables):
            return False
        return all([is_key(key) for key in thing]) and is_path(self, store.rows(), thing)

    def asking(self, position, *flags):
        """A way that asks these flags at a position, too."""
        more = [flags if at == position else () for at in range(len(self.tables))]
        asked = [all_flags(one, other) for one, other in zip(self.asked, more)]
        return Way(self.schema, write_words((self.start, *self.steps), asked))

    def beginning(self, many):
        """The way of the first steps, with the flags that are asked up to their end."""
        return Way(self.schema, write_words((self.start, *self.steps[:many]), self.asked[:many + 1]))

    def __rshift__(self, other):
        if self.end != other.start:
            raise Mismatch(self.end, other.start)
        if len(self.steps) + len(other.steps) > MOST_STEPS:
            raise TooMany("steps")
        meeting = all_flags(self.asked[-1], other.asked[0])
        asked = (*self.asked[:-1], meeting, *other.asked[1:])
        return Way(self.schema, write_words((self.start, *self.steps, *other.steps), asked))

    def __invert__(self):
        heads = [hop_word(turned(hop)) for hop in self.hops[::-1]]
        return Way(self.schema, write_words((self.end, *heads), self.asked[::-1]))

    def __contains__(self, x):
        if not isinstance(x, Way) or not x.schema == self.schema:
            return False
        if x.start != self.start or x.end != self.end:
            return False
        rows, trail = least_rows(x)
        return trail[-1] in joined(self, rows, trail[0])

    def __eq__(self, other):
        if not isinstance(other, Way) or not self.schema == other.schema:
            return False
        return form(self) == form(other)

    def __len__(self):
        return len(self.steps)

    def __str__(self):
        return str(write_words((self.start, *self.steps), self.asked))


def least_rows(way):
    """The rows of the least store of a way, and the trail by which the way goes through it."""
    homes = [way.start]
    trail = [1]
    # Keys are given to rows of all tables together, so that they tell the tables, too.
    filled = {}
    for at, hop in enumerate(way.hops):
        back, _, link = hop
        here = trail[at]
        there = None if back else filled.get((here, link))
        if there is None:
            homes.append(way.tables[at + 1])
            there = len(homes)
            if back:
                filled[there, link] = here
            else:
                filled[here, link] = there
        trail.append(there)
    for key, flags in zip(trail, way.asked):
        for flag in flags:
            filled[key, flag] = True
    return (_rows_of(way.schema, homes, filled), tuple(trail))


def image(narrow, wide):
    """The first trail of wide that shows that narrow lies in it; None if narrow does not."""
    if narrow not in wide:
        return None
    rows, trail = least_rows(narrow)
    return first_path(wide, rows, trail[0], trail[-1])


def _rows_of(schema, homes, filled):
    """Rows with the keys from 1; homes are their tables, filled their cells that are not empty."""
    cells = [{} for _ in homes]
    for (key, column), cell in filled.items():
        cells[key - 1][column] = cell
    return tuple([
        (table, at + 1, full_cells(schema, table, cells[at]))
        for table in schema.tables
        for at, home in enumerate(homes) if home == table
    ])
