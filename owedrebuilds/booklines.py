"""The lines of a book: how they are read, and how they are written."""

from owedrebuilds.documents import Document
from owedrebuilds.errors import BadDocument, BadHook, BadLine, BadSchema, BadWay
from owedrebuilds.hooks import Hook
from owedrebuilds.plain import is_word
from owedrebuilds.schemas import Schema
from owedrebuilds.ways import Way

MOST_DOCUMENTS = 3
MOST_READS = 4
MOST_HOOKS = 60
_DOCUMENT = "document "


class Draft:
    """What the lines of a book have said so far.

    names and reads belong together: the name of a document, and the list of its reads.
    """

    def __init__(self, schema):
        self.schema = schema
        self.names = []
        self.reads = []
        self.hooks = []
        self.bulk = []


def written(book):
    """The lines of a book."""
    lines = [str(book.schema)]
    for document in book.documents:
        lines.append(_DOCUMENT + document.name)
        lines.extend([f"read {column} {way}" for way, column in document.reads])
    lines.extend([str(hook) for hook in book.hooks])
    lines.extend([f"bulk {table} {column}" for table, column in book.bulk])
    return lines


def read_draft(text):
    """The Draft of all lines of a text, any value; raises BadLine."""
    if not isinstance(text, str):
        raise BadLine(-1)
    lines = text.split("\n")
    begin = _schema_end(lines)
    draft = Draft(_schema_of(lines[:begin]))
    for at, line in enumerate(lines):
        if at >= begin and not _taken(draft, line.split(" ")):
            raise BadLine(at)
    if not draft.names or not draft.reads[-1]:
        raise BadLine(len(lines))
    return draft


def _schema_end(lines):
    """The number of the first line that is not one of the schema."""
    heads = [at for at, line in enumerate(lines) if line.startswith(_DOCUMENT)]
    return heads[0] if heads else len(lines)


def _schema_of(lines):
    try:
        return Schema("\n".join(lines))
    except BadSchema as why:
        raise BadLine(why.at) from why


def _taken(draft, words):
    """Whether a line fits behind those of the draft, which then has it, too."""
    if words[0] == "document":
        return _take_document(draft, words)
    if words[0] == "read":
        return _take_read(draft, words)
    # From here on the last document must be whole.
    if not draft.reads[-1]:
        return False
    if words[0] == "hook":
        return _take_hook(draft, words)
    return words[0] == "bulk" and _take_bulk(draft, words)


def _take_document(draft, words):
    if draft.hooks or draft.bulk or (draft.reads and not draft.reads[-1]):
        return False
    if len(words) != 2 or not is_word(words[1]) or words[1] in draft.names:
        return False
    if len(draft.names) == MOST_DOCUMENTS:
        return False
    draft.names.append(words[1])
    draft.reads.append([])
    return True


def _take_read(draft, words):
    if draft.hooks or draft.bulk or len(words) < 3:
        return False
    if sum([len(taken) for taken in draft.reads]) == MOST_READS:
        return False
    reads = [*draft.reads[-1], (_way(draft.schema, words[2:]), words[1])]
    if not _are_reads(draft.names[-1], reads):
        return False
    draft.reads[-1] = reads
    return True


def _are_reads(name, reads):
    try:
        Document(name, *reads)
    except BadDocument:
        return False
    return True


def _take_hook(draft, words):
    if draft.bulk or len(draft.hooks) == MOST_HOOKS:
        return False
    # The column of a set stands ahead of what all hooks have.
    head = 3 if words[1:2] == ["set"] else 2
    if len(words) < head + 3:
        return False
    look, name = words[head], words[head + 1]
    way = _way(draft.schema, words[head + 2:])
    if way is None or name not in draft.names or way.end != _base(draft, name):
        return False
    hook = _hook((words[1], way.start, *words[2:head]), look, way, name)
    if hook is None:
        return False
    draft.hooks.append(hook)
    return True


def _base(draft, name):
    """The table where the ways of a document start."""
    first = draft.reads[draft.names.index(name)][0]
    return first[0].start


def _take_bulk(draft, words):
    column = tuple(words[1:])
    if column not in draft.schema or column in draft.bulk:
        return False
    draft.bulk.append(column)
    return True


def _way(schema, words):
    """The way of these words; None if it is wrong."""
    try:
        return Way(schema, " ".join(words))
    except BadWay:
        return None


def _hook(event, look, way, name):
    """The hook of these parts; None if one is wrong."""
    try:
        return Hook(event, look, way, name)
    except BadHook:
        return None
