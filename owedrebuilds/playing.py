"""A transaction of a desk while it goes on."""

from owedrebuilds.errors import Failed, OwedError, Refused, TooLong
from owedrebuilds.owing import Owing, in_order


class Play:
    """Deeds that are done on copies of the rows and the contents of a desk."""

    def __init__(self, book, store, contents, most):
        self.owing = Owing(book, store.duplicate())
        self.contents = {copy: contents[copy] for copy in contents}
        self.most = most
        self.built = 0

    def play(self, deeds, at_once):
        """Does a whole transaction."""
        for at, deed in enumerate(deeds):
            self._do_deed(at, deed, at_once)
        late = self.owing.finish()
        self._build(late if at_once else self.owing.owed)

    def _do_deed(self, at, deed, at_once):
        steps = self._steps(at, deed)
        for step in steps:
            if deed[0] == "bulk":
                self.owing.happen(step)
                continue
            met = self.owing.answer(at, step)
            self._drop(step)
            if at_once:
                self._build({copy: at for copy in met})

    def _steps(self, at, deed):
        try:
            return self.owing.steps_of(deed)
        except OwedError as why:
            raise Refused(at, why) from why

    def _drop(self, step):
        """Forgets the copies of a row that is removed."""
        if step[0] == "remove":
            gone = [document.name for document in self.owing.book.documents if document.base == step[1]]
            self.contents = {
                copy: self.contents[copy]
                for copy in self.contents
                if copy[1] != step[2] or copy[0] not in gone
            }

    def _build(self, blame):
        """Builds those of the copies whose rows are there; blame has the number of a deed for each."""
        for copy in in_order(self.owing.book, list(blame)):
            if self.owing.has_row(copy):
                try:
                    self.contents[copy] = content_of(self.owing.book, self.owing.now, copy, self.most)
                except TooLong as why:
                    raise Failed(blame[copy], why) from why
                self.built += 1


def content_of(book, store, copy, most):
    """The content of a copy, which is only listed if it has at most so many trails."""
    name, key = copy
    document = book.document_named(name)
    if document.count(store, key) > most:
        raise TooLong(name, key, most)
    return document(store, key)
