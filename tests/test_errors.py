import unittest

from owedrebuilds import errors
from owedrebuilds.errors import BadCell, BadDeed, NotKept, OwedError, Refused
from helpers import check_same

FIELDS = {
    "BadSchema": ("at",),
    "BadStore": ("at",),
    "BadDeed": ("deed",),
    "NoTable": ("table",),
    "NoColumn": ("table", "column"),
    "NoRow": ("table", "key"),
    "Taken": ("table", "key"),
    "BadCell": ("table", "column", "cell"),
    "Held": ("table", "key"),
    "NotBulk": ("table", "column"),
    "TooMany": ("what",),
    "BadWay": ("at",),
    "Mismatch": ("first", "second"),
    "BadDocument": ("at",),
    "BadHook": ("what",),
    "BadBook": ("what", "at"),
    "Crooked": ("where",),
    "BadLine": ("at",),
    "NoDocument": ("name", "key"),
    "TooLong": ("name", "key", "most"),
    "Refused": ("at", "why"),
    "Failed": ("at", "why"),
    "NotKept": (),
}

THINGS = (
    0, 1, -1, True, False, None, "", "word", [1, [2]], (1, (True, 2)), {"a": [None], "b": {}},
    10 ** 39, [], (), {},
)


class Classes(unittest.TestCase):
    def test_the_base_is_a_value_error(self):
        self.assertEqual(OwedError.__bases__, (ValueError,))
        self.assertEqual(OwedError.__module__, "owedrebuilds.errors")

    def test_every_error_stands_directly_under_the_base(self):
        for name in FIELDS:
            made = getattr(errors, name)
            self.assertEqual(made.__name__, name)
            self.assertEqual(made.__bases__, (OwedError,), name)
            self.assertEqual(made.__module__, "owedrebuilds.errors")

    def test_there_are_no_other_errors(self):
        found = [
            name for name, thing in vars(errors).items()
            if isinstance(thing, type) and issubclass(thing, Exception)
        ]
        self.assertEqual(sorted(found), sorted(list(FIELDS) + ["OwedError"]))

    def test_they_are_raised_and_caught(self):
        for name, fields in FIELDS.items():
            for caught in (getattr(errors, name), OwedError, ValueError):
                with self.assertRaises(caught):
                    raise getattr(errors, name)(*fields)


class Fields(unittest.TestCase):
    def test_by_position(self):
        for name, fields in FIELDS.items():
            error = getattr(errors, name)(*[field.upper() for field in fields])
            self.assertEqual(vars(error), {field: field.upper() for field in fields})

    def test_by_name(self):
        for name, fields in FIELDS.items():
            error = getattr(errors, name)(**{field: field.upper() for field in reversed(fields)})
            self.assertEqual(vars(error), {field: field.upper() for field in fields})

    def test_each_field_may_be_any_value(self):
        for name, fields in FIELDS.items():
            for thing in THINGS:
                error = getattr(errors, name)(*[thing for _ in fields])
                for field in fields:
                    check_same(self, getattr(error, field), thing)

    def test_another_number_of_fields_is_refused(self):
        for name, fields in FIELDS.items():
            if fields:
                with self.assertRaises(TypeError):
                    getattr(errors, name)(*fields[1:])
                with self.assertRaises(TypeError):
                    getattr(errors, name)(*fields, "more")

    def test_not_kept_has_no_fields(self):
        self.assertEqual(vars(NotKept()), {})

    def test_an_error_keeps_the_error_that_is_its_reason(self):
        why = BadDeed("x")
        self.assertIs(Refused(3, why).why, why)
        self.assertIs(errors.Failed(at=3, why=why).why, why)

    def test_an_error_copies_its_fields(self):
        for name, fields in FIELDS.items():
            for field in fields:
                thing = [1, {"a": [2]}, ([3],)]
                given = {other: 0 for other in fields}
                given[field] = thing
                error = getattr(errors, name)(**given)
                thing[1]["a"].append(4)
                thing[2][0].append(5)
                thing.append(6)
                check_same(self, getattr(error, field), [1, {"a": [2]}, ([3],)])

    def test_an_error_does_not_change_what_it_is_given(self):
        thing = {"b": (1, [True]), "a": None}
        BadCell("t", "c", thing)
        check_same(self, thing, {"b": (1, [True]), "a": None})


if __name__ == "__main__":
    unittest.main()
