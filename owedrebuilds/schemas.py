"""Schemas: tables with columns, and the links between them."""

from owedrebuilds.errors import BadSchema, NoColumn, NoTable
from owedrebuilds.plain import is_word

_MOST_TABLES = 5
_MOST_COLUMNS = 6
_RULES = ("refuse", "clear", "cascade")
# Parameters of methods that take columns by name are called so.
_BARRED = ("key", "self", "table")


class Schema:
    """One to five tables, written in lines."""

    def __init__(self, text):
        if not isinstance(text, str):
            raise BadSchema(-1)
        self._text = text
        self._shape = _shape_of(text.split("\n"))
        self.tables = tuple(self._shape)
        self._flags = {table: tuple(sorted(_named(self._shape[table], "flag"))) for table in self.tables}
        self._links = {table: tuple(_named(self._shape[table], "link")) for table in self.tables}
        self._steps = _steps_of(self._shape)

    def columns(self, table):
        """The names of the columns of a table, in their order."""
        if table not in self._shape:
            raise NoTable(table)
        return tuple(self._shape[table])

    def kind(self, table, column):
        """What a column is: "value", "flag" or "link"."""
        return self._meaning(table, column)[0]

    def target(self, table, column):
        """The table to which a link leads; None if it is no link."""
        return self._meaning(table, column)[1]

    def rule(self, table, column):
        """What a removal does to a link; None if it is no link."""
        return self._meaning(table, column)[2]

    def links_to(self, table):
        """All (table, column) of links that lead to a table."""
        if table not in self._shape:
            raise NoTable(table)
        return [
            (owner, column)
            for owner in self.tables
            for column in self.columns(owner)
            if self.target(owner, column) == table
        ]

    def flags(self, table):
        """The names of the flags of a table of the schema, ascending."""
        return self._flags[table]

    def links(self, table):
        """The names of the links of a table of the schema, in their order."""
        return self._links[table]

    def step_from(self, table, word):
        """For a step of a way from a table (hop, table reached); None if the word is no step there.

        A hop is (back, table, link): whether it goes back, and the link that it uses.
        """
        return self._steps[table].get(word)

    def _meaning(self, table, column):
        if table not in self._shape:
            raise NoTable(table)
        if column not in self._shape[table]:
            raise NoColumn(table, column)
        return self._shape[table][column]

    def __len__(self):
        return len(self.tables)

    def __contains__(self, x):
        if isinstance(x, str):
            return x in self._shape
        if not isinstance(x, tuple) or len(x) != 2:
            return False
        table, column = x
        if not isinstance(table, str) or not isinstance(column, str):
            return False
        return table in self._shape and column in self._shape[table]

    def __str__(self):
        return str(self._text)

    def __eq__(self, other):
        return isinstance(other, Schema) and self._text == other._text


def _shape_of(lines):
    """For each table a dict from its columns to (kind, target, rule)."""
    names = _written_tables(lines)
    shape = {}
    last = None
    for at, line in enumerate(lines):
        words = line.split(" ")
        if _is_table(words):
            if words[1] in shape or len(shape) == _MOST_TABLES:
                raise BadSchema(at)
            last = words[1]
            shape[last] = {}
        elif last is not None and _is_column(words, names) and _has_room(shape[last], words[1]):
            shape[last][words[1]] = _meaning_of(words)
        else:
            raise BadSchema(at)
    return shape


def _named(columns, kind):
    return [column for column in columns if columns[column][0] == kind]


def _steps_of(shape):
    """For each table a dict from the words of the steps from it to (hop, table reached)."""
    steps = {table: {} for table in shape}
    for table in shape:
        for column, meaning in shape[table].items():
            target = meaning[1]
            if target is not None:
                steps[table][column] = ((False, table, column), target)
                steps[target][f"~{table}.{column}"] = ((True, table, column), table)
    return steps


def _written_tables(lines):
    """The names in all lines of tables, also in those that are wrong at their place."""
    written = [line.split(" ") for line in lines]
    return [words[1] for words in written if _is_table(words)]


def _is_table(words):
    return len(words) == 2 and words[0] == "table" and is_word(words[1])


def _is_column(words, names):
    """Whether a line is written as a column; names are those of the tables of the text."""
    if len(words) < 2 or not is_word(words[1]) or words[1] in _BARRED:
        return False
    if words[0] == "link":
        return len(words) == 4 and words[2] in names and words[3] in _RULES
    return len(words) == 2 and words[0] in ("value", "flag")


def _has_room(columns, name):
    return name not in columns and len(columns) < _MOST_COLUMNS


def _meaning_of(words):
    if words[0] == "link":
        return ("link", words[2], words[3])
    return (words[0], None, None)
