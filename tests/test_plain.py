import unittest

from owedrebuilds.plain import copied, is_integer, is_key, is_word
from helpers import check_same

OTHERS = (None, True, False, [], [1], (), (1,), {}, {"a": 1})


class Questions(unittest.TestCase):
    def test_integers(self):
        for thing in (0, 1, -1, 10 ** 39):
            self.assertIs(is_integer(thing), True)
        for thing in OTHERS + ("1", ""):
            self.assertIs(is_integer(thing), False)

    def test_keys(self):
        for thing in (1, 2, 10 ** 9):
            self.assertIs(is_key(thing), True)
        for thing in OTHERS + ("1", "", 0, -1, 10 ** 9 + 1):
            self.assertIs(is_key(thing), False)

    def test_words(self):
        for thing in ("a", "z", "word", "abcdefgh"):
            self.assertIs(is_word(thing), True)
        wrong = ("", "A", "abcdefghi", "a b", "a1", "aB", "ab-", "1", "~a", "a\n")
        for thing in OTHERS + wrong + (1, ["a"], ("a",), {"a": "b"}):
            self.assertIs(is_word(thing), False)


class Copies(unittest.TestCase):
    def test_every_depth_is_new(self):
        thing = [1, (True, [None]), {"a": [False], "b": {"c": ["x"]}}]
        found = copied(thing)
        check_same(self, found, thing)
        thing[1][1].append(2)
        thing[2]["b"]["c"].append(3)
        thing[2]["a"].clear()
        check_same(self, found, [1, (True, [None]), {"a": [False], "b": {"c": ["x"]}}])


if __name__ == "__main__":
    unittest.main()
