"""Questions about plain values, and copies of them."""


def is_integer(thing):
    """Whether a value is an integer; True and False are none."""
    return isinstance(thing, int) and not isinstance(thing, bool)


def is_key(thing):
    """Whether a value can be the key of a row."""
    return is_integer(thing) and 1 <= thing <= 10 ** 9


def is_word(thing):
    """Whether a value is a word: one to eight letters a to z."""
    if not isinstance(thing, str) or not 1 <= len(thing) <= 8:
        return False
    return thing.isascii() and thing.isalpha() and thing.islower()


def copied(thing):
    """The same value, with new lists, tuples and dicts all the way down."""
    if isinstance(thing, list):
        return [copied(part) for part in thing]
    if isinstance(thing, tuple):
        return tuple([copied(part) for part in thing])
    if isinstance(thing, dict):
        return {name: copied(thing[name]) for name in thing}
    return thing
