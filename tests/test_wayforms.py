"""Point 12: two ways are equal if each lies in the other. The package tells it by their forms."""

import itertools
import random
import unittest

from owedrebuilds.schemas import Schema
from owedrebuilds.wayforms import form
from owedrebuilds.ways import Way
from helpers import check_same, random_detour, random_way, turns

LOOP = Schema("table cat\nlink up cat clear\nflag f\nflag g")
TWO = Schema("table cat\nlink up cat clear\nlink over cat refuse\nflag f\nflag g")
SHOP = Schema("\n".join([
    "table line", "flag f", "link order order clear", "link item item cascade",
    "table order", "flag f", "link first line clear", "table item", "flag g",
]))


def all_ways(schema, most):
    """All ways of up to so many steps; behind the first word each position asks nothing or flag f."""
    found = [([table], table) for table in schema.tables]
    at = 0
    while at < len(found):
        words, table = found[at]
        if len(words) <= most:
            for word, _, there in turns(schema, table):
                asked = [""] + ["[f]"] * ((there, "f") in schema)
                found.extend([(words + [word + flags], there) for flags in asked])
        at += 1
    return [Way(schema, " ".join(words)) for words, _ in found]


def loop(text):
    return Way(LOOP, text)


class Forms(unittest.TestCase):
    def same(self, *texts):
        for one, other in itertools.combinations(texts, 2):
            check_same(self, loop(one) in loop(other) and loop(other) in loop(one), True)
            check_same(self, loop(one) == loop(other), True)
            check_same(self, form(loop(one)) == form(loop(other)), True)

    def differ(self, one, other):
        check_same(self, loop(one) in loop(other) and loop(other) in loop(one), False)
        check_same(self, loop(one) == loop(other), False)
        check_same(self, loop(other) == loop(one), False)

    def test_ways_without_branches(self):
        for text in ("cat", "cat[f,g]", "cat up[f] ~cat.up", "cat[g] up up ~cat.up[f] ~cat.up"):
            check_same(self, form(loop(text)), text)
        check_same(self, form(loop("cat[g,f] up")), "cat[f,g] up")

    def test_flags_of_a_row_at_several_positions(self):
        self.same("cat[f,g] ~cat.up up", "cat[f] ~cat.up up[g]", "cat ~cat.up up[f,g]", "cat[g,f] ~cat.up up[g]")
        self.differ("cat[f] ~cat.up up", "cat ~cat.up[f] up")
        self.differ("cat ~cat.up up", "cat")

    def test_branches_beside_each_other(self):
        self.same(
            "cat ~cat.up[f] up", "cat ~cat.up[f] up ~cat.up[f] up", "cat ~cat.up up ~cat.up[f] up",
            "cat ~cat.up[f] up ~cat.up up", "cat ~cat.up up ~cat.up[f] up ~cat.up up",
        )
        self.same("cat ~cat.up[f] up ~cat.up[g] up", "cat ~cat.up[g] up ~cat.up[f] up ~cat.up up")
        self.differ("cat ~cat.up[f] up ~cat.up[g] up", "cat ~cat.up[f,g] up")
        self.differ("cat ~cat.up[f] up ~cat.up[g] up", "cat ~cat.up[f] up")

    def test_branches_of_branches(self):
        deep = "cat ~cat.up ~cat.up[f] up up"
        self.same(deep, deep + " ~cat.up up", "cat ~cat.up up ~cat.up ~cat.up[f] up up")
        self.same(deep, "cat ~cat.up ~cat.up up ~cat.up[f] up up", deep + " ~cat.up ~cat.up up up")
        self.differ(deep, "cat ~cat.up[f] ~cat.up up up")
        self.differ(deep, "cat ~cat.up ~cat.up up up ~cat.up[f] up")
        self.differ(
            "cat ~cat.up ~cat.up[f] up ~cat.up[g] up up",
            "cat ~cat.up ~cat.up[f] up up ~cat.up ~cat.up[g] up up",
        )

    def test_branches_that_the_rest_of_the_way_has(self):
        # The row to which a way goes back, or from which it comes along a link, links to the row, too.
        self.same("cat ~cat.up", "cat ~cat.up up ~cat.up", "cat ~cat.up up ~cat.up up ~cat.up")
        self.same("cat up", "cat up ~cat.up up", "cat up ~cat.up up ~cat.up up")
        self.same("cat ~cat.up ~cat.up[f]", "cat ~cat.up ~cat.up[f] up up ~cat.up ~cat.up[f]")
        self.same("cat[f] up up", "cat[f] up up ~cat.up ~cat.up[f] up up")
        self.same("cat[f] up", "cat[f] up ~cat.up[f] up")
        self.differ("cat up", "cat up ~cat.up[f] up")
        self.differ("cat ~cat.up", "cat ~cat.up up ~cat.up[f] up ~cat.up")
        self.differ("cat up", "cat up ~cat.up ~cat.up up up")
        self.differ("cat up up", "cat up up ~cat.up up ~cat.up[g] up")

    def test_branches_of_rows_on_the_way(self):
        # A branch of the start is one of the row that links there, seen from behind.
        one = "cat ~cat.up[f] up up"
        self.same(one, one + " ~cat.up ~cat.up[f] up up", one + " ~cat.up ~cat.up up up")
        self.differ(one, "cat up ~cat.up ~cat.up[f] up up")
        other = "cat ~cat.up ~cat.up[f] up"
        self.same(other, "cat ~cat.up ~cat.up[f] up up ~cat.up ~cat.up[f] up")
        self.differ(other, "cat ~cat.up ~cat.up[f] up up ~cat.up")

    def test_all_short_ways(self):
        equal = 0
        for schema, most in ((LOOP, 4), (SHOP, 3)):
            for one, other in itertools.combinations(all_ways(schema, most), 2):
                if (one.start, one.end) == (other.start, other.end):
                    wanted = one in other and other in one
                    self.assertIs(one == other, wanted, (str(one), str(other)))
                    equal += wanted
        self.assertGreater(equal, 200)

    def test_long_ways(self):
        source = random.Random(12)
        found = [0, 0]
        for _ in range(4000):
            schema = source.choice((LOOP, TWO, SHOP))
            one = random_way(source, schema, 6)
            other = one
            for _ in range(source.choice([1, 2, 3])):
                other = random_detour(source, other)
            wanted = one in other and other in one
            self.assertIs(one == other, wanted, (str(one), str(other)))
            found[wanted] += str(one) != str(other)
        self.assertGreater(min(found), 200)


if __name__ == "__main__":
    unittest.main()
