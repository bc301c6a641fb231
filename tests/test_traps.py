import random
import unittest

from owedrebuilds.books import Book
from owedrebuilds.desks import Desk
from owedrebuilds.fewest import full_book, least_sets, looks, may_ask
from owedrebuilds.hooks import Hook
from owedrebuilds.judging import judge
from owedrebuilds.looker import is_certificate
from owedrebuilds.schemas import Schema
from owedrebuilds.stores import Store
from owedrebuilds.ways import Way
from helpers import check_error, check_same
from samples import ROAD, late_book, straight_document
from test_judging import check_kept, check_stale
from worlds import World

SHOP = [
    "table line", "value many", "link order order cascade", "flag ready", "flag public",
    "table order", "flag open", "flag paid",
]
SHEET = SHOP + ["document sheet", "read many order ~line.order[public,ready]"]
# Every scene but those of the flags of a line is covered by these.
REST = [
    "hook put behind sheet order", "hook set many behind sheet line order", "hook put behind sheet line order",
]
LINK = ["hook set order ahead sheet line order", "hook set order behind sheet line order"]
GONE = ["hook remove ahead sheet line order"]
TWO = Schema("table a\nflag f\nvalue v\ntable b\nlink a a refuse\nflag g\nflag h\nvalue w")


def book(*lines):
    return Book.read("\n".join(lines))


class ByHand(unittest.TestCase):
    def kept(self, *lines):
        one = book(*lines)
        check_kept(self, one, judge(one))

    def stale(self, many, deeds, *lines):
        """The book is not kept; so many rows and these deeds show it, in any order of the deeds."""
        one = book(*lines)
        verdict = judge(one)
        check_stale(self, one, verdict)
        check_same(self, len(verdict), many)
        check_same(self, sorted(verdict.certificate[2], key=repr), sorted(deeds, key=repr))
        self.assertTrue(World(one).stale_by_many_changes(many))
        if many > 1:
            self.assertFalse(World(one).stale_by_many_changes(many - 1))

    FLAGS = ["hook set ready late sheet line order", "hook set public late sheet line order"]

    def test_late_hooks_alone(self):
        self.kept(*SHEET, *REST, *LINK, *GONE, *self.FLAGS)
        self.kept(*SHEET, *[line.replace("behind", "late") for line in REST], *LINK, *GONE, *self.FLAGS)
        self.kept(*SHEET, *REST, LINK[0], LINK[1].replace("behind", "late"), *GONE, *self.FLAGS)

    def test_a_link_that_is_cut(self):
        ready = ("set", "line", 2, "ready", False)
        cut = ("set", "line", 2, "order", None)
        lines = [*SHEET, *REST, *GONE, *self.FLAGS, LINK[1]]
        self.kept(*lines, "hook set order ahead sheet line order")
        self.kept(*lines, "hook set order ahead sheet line[ready] order",
                  "hook set ready ahead sheet line order", "hook set public ahead sheet line order")
        self.stale(2, [ready, cut], *lines, "hook set order ahead sheet line[ready] order")
        self.stale(2, [cut], *lines)

    def test_a_row_that_is_removed(self):
        ready = ("set", "line", 2, "ready", False)
        lines = [*SHEET, *REST, *LINK, *self.FLAGS]
        self.kept(*lines, "hook remove ahead sheet line order")
        self.stale(2, [ready, ("remove", "line", 2)], *lines, "hook remove ahead sheet line[ready] order")
        self.stale(2, [("remove", "line", 2)], *lines)
        # The flag is also answered ahead: it can not be made False without a rebuild.
        self.kept(*lines, "hook remove ahead sheet line[ready] order", "hook set ready ahead sheet line order")

    def test_changes_that_follow_one_another(self):
        deeds = [
            ("set", "line", 2, "public", False), ("set", "line", 2, "ready", False), ("set", "line", 2, "order", None),
        ]
        lines = [*SHEET, *REST, *GONE, LINK[1], "hook set public late sheet line order"]
        lines += ["hook set ready ahead sheet line[public] order", "hook set ready behind sheet line[public] order"]
        self.stale(2, deeds, *lines, "hook set order ahead sheet line[ready] order")
        self.stale(2, [deeds[0], deeds[2]], *lines, "hook set order ahead sheet line[public] order")
        self.kept(*lines, "hook set order ahead sheet line order")
        # Without the first change the second one is not free.
        lines[lines.index("hook set public late sheet line order")] = "hook set public behind sheet line order"
        lines.append("hook set many late sheet line order")
        self.kept(*lines, "hook set order ahead sheet line[ready] order")

    def test_flags_that_are_asked(self):
        deeds = [("set", "line", 2, "ready", False), ("set", "line", 2, "public", False)]
        lines = [*SHEET, *REST, *LINK, *GONE]
        ready, public = "hook set ready late sheet line order", "hook set public late sheet line order"
        asking = [ready.replace("line order", "line[public] order"), public.replace("line order", "line[ready] order")]
        self.stale(2, deeds, *lines, *asking)
        self.kept(*lines, ready, asking[1])
        self.kept(*lines, asking[0], public)
        self.kept(*lines, *asking, "hook set ready ahead sheet line order")
        self.kept(*lines, *asking, public)
        # An ahead hook that asks the other flag meets the copy by the first change of the two.
        self.kept(*lines, asking[0], "hook set public ahead sheet line order")
        # A hook that asks its own flag covers the set to True alone.
        self.stale(2, deeds[:1], *lines, ready.replace("line order", "line[ready] order"), public)

    def test_flags_of_the_row_of_the_copy(self):
        lines = SHOP + ["document sheet", "read paid order[open,paid]", "hook put behind sheet order"]
        open_too, paid_too = "hook set open late sheet order[paid]", "hook set paid late sheet order[open]"
        deeds = [("set", "order", 1, "open", False), ("set", "order", 1, "paid", False)]
        self.stale(1, deeds, *lines, open_too, paid_too)
        # Also where no hook but late ones are there.
        self.stale(1, deeds, *lines[:-1], "hook put late sheet order", open_too, paid_too)
        self.kept(*lines, "hook set open late sheet order", paid_too)
        self.kept(*lines, open_too, "hook set paid late sheet order")
        self.kept(*lines, open_too, paid_too, "hook set paid behind sheet order")

    def test_flags_along_a_link(self):
        lines = [
            *SHOP, "document doc", "read open line order[open,paid]", "hook put behind doc line",
            "hook set order behind doc line",
        ]
        late = ["hook set open late doc order[paid] ~line.order", "hook set paid late doc order[open] ~line.order"]
        deeds = [("set", "order", 2, "open", False), ("set", "order", 2, "paid", False)]
        self.stale(2, deeds, *lines, *late)
        self.kept(*lines, late[0], "hook set paid late doc order ~line.order")
        # The link is a cell of the copy's own row; it is not cut for free, but it may be answered late itself.
        self.kept(*lines[:-1], "hook set order late doc line", late[0], "hook set paid late doc order ~line.order")

    def test_rows_further_on(self):
        road = [
            "table a", "flag f", "table b", "link a a clear", "flag g",
            "table c", "link b b clear", "flag h", "value w",
            "document doc", "read w a ~b.a[g] ~c.b[h]", "hook put behind doc a", "hook put behind doc b a",
            "hook put behind doc c b a", "hook remove ahead doc c b a", "hook set w behind doc c b a",
            "hook set b behind doc c b a", "hook set a behind doc b a", "hook set h late doc c b a",
            "hook set g late doc b a",
        ]
        cut_b, cut_a = "hook set b ahead doc c b a", "hook set a ahead doc b a"
        self.kept(*road, cut_b, cut_a)
        h, g = ("set", "c", 3, "h", False), ("set", "b", 2, "g", False)
        self.stale(3, [h, ("set", "c", 3, "b", None)], *road, "hook set b ahead doc c[h] b a", cut_a)
        self.stale(3, [g, ("set", "b", 2, "a", None)], *road, cut_b, "hook set a ahead doc b[g] a")
        # With a flag of the row before it, the link is cut for free, and nothing holds that row any more.
        deeds = [g, ("set", "c", 3, "b", None), ("remove", "b", 2)]
        self.stale(3, deeds, *road, "hook set b ahead doc c b[g] a", cut_a)
        self.kept(*road, "hook set b ahead doc c b[g] a", "hook set g ahead doc b a", cut_a)
        # The row of the copy stays: its late hook meets the copy at the end.
        road[10] = "read w a[f] ~b.a[g] ~c.b[h]"
        road.append("hook set f late doc a")
        self.kept(*road, "hook set b ahead doc c b a[f]", "hook set a ahead doc b a[f]")

    def test_the_shorter_read(self):
        lines = [
            *SHOP, "document sheet", "read many order ~line.order[public,ready]", "read paid order[open,paid]",
            *REST, *LINK, *GONE, "hook set open late sheet order[paid]", "hook set paid late sheet order[open]",
        ]
        deeds = [("set", "order", 1, "open", False), ("set", "order", 1, "paid", False)]
        # The read of two rows is stale by one change, that of one row by two.
        self.stale(1, deeds, *lines)
        self.stale(1, deeds, *lines, *self.FLAGS)
        self.stale(2, [("set", "line", 2, "ready", False)], *lines, "hook set paid late sheet order", self.FLAGS[1])

    def test_bulk_columns_do_not_cut_what_is_needed(self):
        lines = [*SHEET, *REST, *LINK, *GONE, *self.FLAGS, "hook set ready late sheet line[public] order[open]"]
        self.kept(*lines, "bulk order open", "bulk order paid")
        one = book(*lines, "bulk line public")
        check_same(self, judge(one).certificate[2], (("bulk", "line", (2,), "public", False),))
        check_stale(self, one, judge(one))

    def test_late_hooks_of_other_documents(self):
        lines = SHOP + ["document sheet", "read paid order[open,paid]", "document more", "read paid order[open,paid]"]
        lines += [f"hook put behind {name} order" for name in ("sheet", "more")]
        more = ["hook set open late more order", "hook set paid late more order"]
        sheet = ["hook set open late sheet order[paid]", "hook set paid late sheet order[open]"]
        deeds = [("set", "order", 1, "open", False), ("set", "order", 1, "paid", False)]
        self.stale(1, deeds, *lines, *more, *sheet)
        self.kept(*lines, *more, *sheet, "hook set open late sheet order")

    def test_not_kept(self):
        lines = SHOP + ["document sheet", "read paid order[open,paid]", "hook put behind sheet order"]
        one = book(*lines, "hook set open late sheet order[paid]", "hook set paid late sheet order[open]")
        check_error(self, ("NotKept",), least_sets, one)
        check_error(self, ("NotKept",), may_ask, one, 1)
        # As hooks that look ahead or behind they keep the book.
        both = ("ahead", "behind")
        check_same(self, looks(one), [("behind", first, second) for first in both for second in both])

    def test_other_documents(self):
        # Ahead hooks of another document do not make a change less free.
        lines = [
            *SHOP, "document sheet", "read many order ~line.order[public,ready]", "document more", "read many line",
            *REST, LINK[1], *GONE, *self.FLAGS, "hook set order ahead sheet line[ready] order",
            "hook put behind more line", "hook set many behind more line", "hook set order ahead more line",
        ]
        one = book(*lines)
        check_stale(self, one, judge(one))
        check_same(self, (len(judge(one)), judge(one).certificate[3]), (2, "sheet"))
        check_kept(self, one.plus(book(*SHEET, LINK[0]).hooks[0]), judge(one.plus(book(*SHEET, LINK[0]).hooks[0])))


class AgainstAllChanges(unittest.TestCase):
    """Held against all sequences of changes, puts among them, in stores with a row of each table."""

    def check_books(self, schema, seeds, most, steps):
        found = {}
        for seed in seeds:
            source = random.Random(seed)
            full = full_book([straight_document(source, schema, source.choice(steps), source.choice([1, 1, 2]))])
            one = late_book(source, full)
            verdict = judge(one)
            world = World(one)
            many = next((many for many in range(1, most + 1) if world.stale_by_many_changes(many)), None)
            if verdict:
                check_kept(self, one, verdict)
                self.assertIsNone(many, str(one))
            else:
                check_stale(self, one, verdict)
                self.assertEqual(many or max(len(verdict), most + 1), len(verdict), str(one))
            kind = (many, len(verdict.certificate[2]) > 1 if not verdict else None)
            found[kind] = found.get(kind, 0) + 1
        return found

    def test_two_tables(self):
        # The last ones need several deeds.
        found = self.check_books(TWO, [*range(40), 209, 274, 329, 440, 706, 720, 1174, 1227, 1495, 1521], 2, (0, 1, 1))
        self.assertGreater(found[None, None], 10, found)
        check_same(self, (found[1, True], found[2, True]), (6, 4))

    def test_three_tables(self):
        found = self.check_books(ROAD, (11, 18, 25, 27, 26, 150, 330), 3, (2,))
        self.assertGreater(found[None, None], 0, found)
        check_same(self, (found[2, True], found[3, True]), (2, 1))

    def test_every_choice_of_looks_and_flags(self):
        # All hooks for the flags and the link of one read, with every look and every flag that they may ask.
        lines = [*SHEET[:6], SHEET[-2], SHEET[-1], *REST, *GONE, LINK[1]]
        kept = 0
        for ready in ("late sheet line", "late sheet line[public]", "ahead sheet line[public]"):
            for public in ("late sheet line", "late sheet line[ready]", "ahead sheet line"):
                for link in ("line", "line[ready]", "line[public]", "line[public,ready]"):
                    one = book(
                        *lines, f"hook set ready {ready} order", "hook set ready behind sheet line[public,ready] order",
                        f"hook set public {public} order", "hook set public behind sheet line[public,ready] order",
                        f"hook set order ahead sheet {link} order",
                    )
                    verdict = judge(one)
                    self.assertEqual(bool(verdict), not World(one).stale_by_many_changes(2), str(one))
                    kept += bool(verdict)
                    if not verdict:
                        check_stale(self, one, verdict)
        self.assertGreater(kept, 8)
        self.assertLess(kept, 30)


class AtTheBounds(unittest.TestCase):
    def test_five_tables(self):
        tables = [["table a", "flag f", "value v"]]
        for name, before in zip("bcde", "abcd"):
            tables.append([f"table {name}", f"link {before} {before} clear", "flag f", "value v"])
        lines = [line for table in tables for line in table]
        read = "read v a[f] ~b.a[f] ~c.b[f] ~d.c[f] ~e.d"
        full = full_book(book(*lines, "document doc", read).documents)
        late = [hook.looking("late") if hook.event[-1] in ("f", "v") else hook for hook in full]
        verdict = judge(Book(full.documents, late))
        # The hooks for links of the full book ask flags, which can be made False ahead of them.
        check_stale(self, Book(full.documents, late), verdict)
        check_same(self, (len(verdict), len(verdict.certificate[2])), (5, 2))
        for at, hook in enumerate(late):
            if hook.look != "late":
                way = Way(full.schema, str(hook.way).replace("[f]", ""))
                late[at] = Hook(hook.event, hook.look, way, "doc")
        check_kept(self, Book(full.documents, late), judge(Book(full.documents, late)))

    def test_desks(self):
        one = book(*SHEET, *REST, *GONE, *ByHand.FLAGS, LINK[1], "hook set order ahead sheet line[ready] order")
        _, rows, deeds, name, key = judge(one).certificate
        for at_once in (False, True):
            desk = Desk(one, Store(one.schema, rows))
            desk.do(*deeds, at_once=at_once)
            check_same(self, desk.stale(), [(name, key)])
        check_same(self, is_certificate(one, ("stale", rows, deeds[:1], name, key)), False)
        check_same(self, is_certificate(one, ("stale", rows, deeds[::-1], name, key)), False)


if __name__ == "__main__":
    unittest.main()
