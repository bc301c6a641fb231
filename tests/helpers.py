"""What several test files use."""

from owedrebuilds.errors import OwedError


def strict(value):
    """A value as text in which True is not 1 and a list is no tuple; the order of dicts is lost."""
    if isinstance(value, dict):
        parts = sorted((strict(name), strict(value[name])) for name in value)
        return "dict(" + ", ".join(name + ": " + part for name, part in parts) + ")"
    if isinstance(value, list):
        return "list(" + ", ".join(strict(part) for part in value) + ")"
    if isinstance(value, tuple):
        return "tuple(" + ", ".join(strict(part) for part in value) + ")"
    return type(value).__name__ + " " + repr(value)


def error_of(action, *given, **named):
    """The class and the fields of the error that a call raises; None if it raises none."""
    try:
        action(*given, **named)
    except OwedError as error:
        return (type(error).__name__,) + tuple(vars(error).values())
    return None


def check_same(case, got, wanted):
    """The two values are the same, with their kinds."""
    case.assertEqual(strict(got), strict(wanted))


def check_error(case, wanted, action, *given, **named):
    """The call raises this error: the name of its class, then its fields."""
    case.assertEqual(strict(error_of(action, *given, **named)), strict(wanted))
