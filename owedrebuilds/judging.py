"""Verdicts: whether a book is kept, with a certificate that shows it."""

from owedrebuilds.folds import folded_rows, foldings
from owedrebuilds.keeping import answer, is_answered, is_bulk
from owedrebuilds.scenes import new_scene, plain_scenes, scenes
from owedrebuilds.traps import trap
from owedrebuilds.ways import least_rows

# A read has at most five steps.
_MOST_ROWS = 6


class Verdict:
    """Whether a book is kept, and what shows it."""

    def __init__(self, certificate):
        self.certificate = certificate
        self._counted = _rows_and_puts(certificate)

    def __bool__(self):
        return bool(self.certificate[0] == "kept")

    def __len__(self):
        return len(self._counted)


def judge(book):
    """The verdict on a book, with an answer for each scene or with as few rows as possible."""
    answers = []
    missing = {}
    for scene in scenes(book):
        found = answer(book, scene)
        answers.append(found)
        if found is None:
            missing[scene.document, scene.number] = True
    certificate = _fewest(book, missing)
    if certificate is None:
        certificate = ("kept", tuple(answers))
    return Verdict(certificate)


def _fewest(book, missing):
    """A stale certificate with as few rows as possible; None if the book is kept.

    missing has the (name, number) of all reads with a scene that is not answered. A copy that
    is missing needs one row alone; one that is stale has a trail of a read ahead or behind,
    and so at least the rows of a folded least store of this read.
    """
    for document in book.documents:
        if (document.name, -1) in missing:
            return _certificate(book, new_scene(document))
    for many in range(1, _MOST_ROWS + 1):
        for document in book.documents:
            for number in range(len(document)):
                certificate = _by_one_change(book, document, number, many, missing)
                if certificate is None:
                    certificate = _by_trap(book, document, number, many)
                if certificate is not None:
                    return certificate
    return None


def _by_one_change(book, document, number, many, missing):
    """A stale certificate in a folded least store of a read with so many rows, or None."""
    rows, trail = least_rows(document.reads[number][0])
    if (document.name, number) not in missing:
        return None
    for names in foldings(document.schema, rows):
        if len(set(list(names.values()))) == many:
            folded = folded_rows(document.schema, rows, names)
            thin_trail = tuple([names[key] for key in trail])
            for scene in plain_scenes(document, number, folded, thin_trail):
                if not is_answered(book, scene):
                    return _certificate(book, scene)
    return None


def _by_trap(book, document, number, many):
    """A stale certificate of several changes in the least store of a read with so many rows, or None."""
    rows = least_rows(document.reads[number][0])[0]
    deeds = trap(book, document, number) if len(rows) == many else None
    if deeds is None:
        return None
    return ("stale", rows, deeds, document.name, 1)


def _certificate(book, scene):
    """The certificate that shows that a scene is not answered."""
    deed = scene.deed
    if is_bulk(book, scene):
        deed = ("bulk", deed[1], (deed[2],), deed[3], deed[4])
    return ("stale", tuple(scene.ahead().rows()), (deed,), scene.document, scene.key)


def _rows_and_puts(certificate):
    """The rows and the puts of a stale certificate."""
    if certificate[0] == "kept":
        return ()
    return (*certificate[1], *[deed for deed in certificate[2] if deed[0] == "put"])
