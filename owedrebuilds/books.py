"""Books: documents, the hooks that keep them fresh, and the columns that bulk deeds may change."""

from owedrebuilds.booklines import MOST_DOCUMENTS, MOST_HOOKS, MOST_READS, read_draft, written
from owedrebuilds.documents import Document
from owedrebuilds.errors import BadBook, Crooked, NoDocument
from owedrebuilds.hooks import Look


class Book:
    """Documents over one schema, hooks for them, and bulk columns."""

    def __init__(self, documents, hooks, *, bulk=()):
        _check_documents(documents)
        _check_hooks(documents, hooks)
        _check_bulk(documents[0].schema, bulk)
        _check_straight(documents, hooks)
        self.documents = tuple(documents)
        self.hooks = tuple(hooks)
        self.bulk = tuple(bulk)
        self.schema = documents[0].schema

    @staticmethod
    def read(text):
        """The book that a text writes."""
        draft = read_draft(text)
        documents = [Document(name, *reads) for name, reads in zip(draft.names, draft.reads)]
        return Book(documents, draft.hooks, bulk=tuple(draft.bulk))

    def document_named(self, name):
        """The document with this name."""
        for document in self.documents:
            if document.name == name:
                return document
        raise NoDocument(name, None)

    def only(self, numbers):
        """A book with the hooks that have these numbers alone."""
        return Book(self.documents, [self.hooks[number] for number in numbers], bulk=self.bulk)

    def plus(self, *hooks):
        """A book with more hooks behind those of this one."""
        return Book(self.documents, [*self.hooks, *hooks], bulk=self.bulk)

    def __len__(self):
        return len(self.hooks)

    def __bool__(self):
        return bool(self.hooks)

    def __iter__(self):
        return iter(self.hooks)

    def __contains__(self, x):
        return any([hook == x for hook in self.hooks])

    def __str__(self):
        return "\n".join(written(self))


def _check_documents(documents):
    if not 1 <= len(documents) <= MOST_DOCUMENTS:
        raise BadBook("documents", -1)
    schema = documents[0].schema
    names = []
    for at, document in enumerate(documents):
        if not document.schema == schema or document.name in names:
            raise BadBook("documents", at)
        names.append(document.name)
    many = 0
    for at, document in enumerate(documents):
        many += len(document)
        if many > MOST_READS:
            raise BadBook("documents", at)


def _check_hooks(documents, hooks):
    schema = documents[0].schema
    bases = {document.name: document.base for document in documents}
    for at, hook in enumerate(hooks):
        if at >= MOST_HOOKS or hook.document not in bases:
            raise BadBook("hooks", at)
        if not hook.way.schema == schema or hook.way.end != bases[hook.document]:
            raise BadBook("hooks", at)


def _check_bulk(schema, bulk):
    for at, column in enumerate(bulk):
        if not isinstance(column, tuple) or column not in schema or column in bulk[:at]:
            raise BadBook("bulk", at)


def _check_straight(documents, hooks):
    """Raises Crooked; only a book with late hooks must be straight."""
    if not any([hook.look == Look.LATE for hook in hooks]):
        return
    for document in documents:
        for number, (way, _) in enumerate(document.reads):
            if not way.is_straight:
                raise Crooked((document.name, number))
    for number, one in enumerate(hooks):
        if not one.way.is_straight:
            raise Crooked(number)
