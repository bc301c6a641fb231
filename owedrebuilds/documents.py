"""Documents: what is built from linked rows."""

from owedrebuilds.errors import BadDocument, NoRow
from owedrebuilds.paths import counted
from owedrebuilds.plain import is_word
from owedrebuilds.ways import Way

_MOST_READS = 4
_MOST_STEPS = 5
_MOST_FLAGS = 4


class Document:
    """A name and reads: pairs of a way and a column of the table where the way ends."""

    def __init__(self, name, *reads):
        if not is_word(name) or not 1 <= len(reads) <= _MOST_READS:
            raise BadDocument(-1)
        for at, read in enumerate(reads):
            if not _is_read(read) or not _goes_with(reads[0][0], read[0]):
                raise BadDocument(at)
        self.name = name
        self.reads = reads
        self.base = reads[0][0].start
        self.schema = reads[0][0].schema

    def __call__(self, store, key):
        """The content of a copy: for each read all pairs (trail, cell), ascending."""
        self._check_row(store, key)
        return tuple([_entry(way, column, store, key) for way, column in self.reads])

    def count(self, store, key):
        """How many trails the content of a copy has."""
        self._check_row(store, key)
        rows = store.rows()
        return sum([counted(way, rows, key) for way, _ in self.reads])

    def _check_row(self, store, key):
        if (self.base, key) not in store:
            raise NoRow(self.base, key)

    def __len__(self):
        return len(self.reads)

    def __contains__(self, x):
        return any([way == x for way, _ in self.reads])


def _is_read(thing):
    """Whether any value is a read, whatever the other reads are."""
    if not isinstance(thing, tuple) or len(thing) != 2:
        return False
    way, column = thing
    if not isinstance(way, Way) or len(way) > _MOST_STEPS:
        return False
    if sum([len(flags) for flags in way.asked]) > _MOST_FLAGS:
        return False
    return (way.end, column) in way.schema and way.schema.kind(way.end, column) != "link"


def _goes_with(first, way):
    """Whether two ways can stand in one document."""
    return first.schema == way.schema and first.start == way.start


def _entry(way, column, store, key):
    """The part of a content that one read gives."""
    return tuple([
        (trail, store.cell_of(way.end, trail[-1], column))
        for trail in way.trails(store, key)
    ])
