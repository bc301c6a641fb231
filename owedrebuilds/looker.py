"""Whether certificates show what they say, whoever made them."""

from owedrebuilds.desks import Desk
from owedrebuilds.errors import OwedError
from owedrebuilds.keeping import is_bulk
from owedrebuilds.plain import is_integer, is_key
from owedrebuilds.scenes import is_cover, scenes
from owedrebuilds.stores import Store
from owedrebuilds.traps import is_trapped

_MOST_TRAILS = 1000


def is_certificate(book, thing):
    """Whether any value is a certificate for a book."""
    if not isinstance(thing, tuple):
        return False
    if len(thing) == 2 and thing[0] == "kept":
        return _is_kept_by(book, thing[1])
    if len(thing) == 5 and thing[0] == "stale":
        _, rows, deeds, name, key = thing
        return _is_stale_by(book, rows, deeds, (name, key))
    return False


def _is_kept_by(book, answers):
    found = list(scenes(book))
    if not isinstance(answers, tuple) or len(answers) != len(found):
        return False
    if not all([_is_answer(book, scene, pair) for scene, pair in zip(found, answers)]):
        return False
    return not is_trapped(book)


def _is_answer(book, scene, thing):
    """Whether any value is the number of a hook and a trail that answer a scene."""
    if not isinstance(thing, tuple) or len(thing) != 2:
        return False
    number, trail = thing
    if not is_integer(number) or not 0 <= number < len(book):
        return False
    return not is_bulk(book, scene) and is_cover(scene, book.hooks[number], trail)


def _is_stale_by(book, rows, deeds, copy):
    """Whether a transaction leaves a copy stale on a desk with these rows, if it does not fail."""
    if not isinstance(rows, tuple) or not isinstance(deeds, tuple) or not is_key(copy[1]):
        return False
    try:
        desk = Desk(book, Store(book.schema, rows), most=_MOST_TRAILS)
        desk.do(*deeds)
    except OwedError:
        return False
    return copy in desk.stale()
