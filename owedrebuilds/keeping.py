"""Whether a book is kept."""

from owedrebuilds.errors import NotKept
from owedrebuilds.scenes import cover, covers, scenes
from owedrebuilds.traps import is_trapped


def is_kept(book):
    """Whether no transaction on any store leaves a copy stale."""
    for scene in scenes(book):
        if not is_answered(book, scene):
            return False
    return not is_trapped(book)


def check_kept(book):
    """Raises NotKept if a book is not kept."""
    if not is_kept(book):
        raise NotKept()


def is_bulk(book, scene):
    """Whether the change of a scene can be made by a bulk deed, which no hook answers."""
    # The event of a put or a removal has no column behind its table.
    return scene.event[1:] in book.bulk


def is_answered(book, scene):
    """Whether the copy of a scene is met whatever deed makes the change."""
    if is_bulk(book, scene):
        return False
    for hook in book.hooks:
        if covers(scene, hook):
            return True
    return False


def answer(book, scene):
    """The first hook, by its number, and trail that cover a scene; None if it is not answered."""
    if is_bulk(book, scene):
        return None
    for number, hook in enumerate(book.hooks):
        trail = cover(scene, hook)
        if trail is not None:
            return (number, trail)
    return None


def coverings(book, hooks):
    """For the scenes of a book the numbers of those of the hooks that cover them.

    Each such tuple is given once; it is empty where the change can be made by a bulk deed.
    """
    found = {}
    for scene in scenes(book):
        if is_bulk(book, scene):
            found[()] = True
        else:
            found[tuple([at for at, hook in enumerate(hooks) if covers(scene, hook)])] = True
    return list(found)
