import random
import unittest

from owedrebuilds.books import Book
from owedrebuilds.comparing import Comparison, compare, is_parting
from owedrebuilds.desks import owed_by
from owedrebuilds.documents import Document
from owedrebuilds.fewest import full_book
from owedrebuilds.schemas import Schema
from owedrebuilds.stores import Store
from owedrebuilds.ways import Way
from helpers import check_error, check_same
from samples import CHAIN, PAIR, RING, ROAD, changed_book, late_book, random_document, random_hook, straight_document
from worlds import World, all_stores

SHOP = [
    "table line", "value many", "link order order cascade", "flag ready", "table order", "flag paid",
    "link friend order clear",
]
SHEET = SHOP + ["document sheet", "read many order ~line.order"]
CAT = ["table cat", "link parent cat clear", "flag shown", "document tree", "read shown cat"]


def book(*lines):
    return Book.read("\n".join(lines))


def check_parted(case, one, other, comparison):
    """The certificate passes with the books in either order."""
    certificate = comparison.certificate
    check_same(case, (bool(comparison), certificate[0], len(certificate)), (False, "parted", 5))
    _, rows, deed, name, key = certificate
    case.assertIsInstance(rows, tuple)
    store = Store(one.schema, rows)
    check_same(case, list(rows), store.rows())
    check_same(case, len(store.changes(deed)), 1)
    owed = [(name, key) in list(owed_by(part, store, deed)) for part in (one, other)]
    check_same(case, sorted(owed), [False, True])
    check_same(case, is_parting(one, other, certificate), True)
    check_same(case, is_parting(other, one, certificate), True)


class ByHand(unittest.TestCase):
    def alike(self, one, other):
        for comparison in (compare(one, other), compare(other, one), compare(one=one, other=other)):
            self.assertIsInstance(comparison, Comparison)
            check_same(self, (bool(comparison), comparison.certificate), (True, ("alike",)))

    def parted(self, one, other):
        check_parted(self, one, other, compare(one, other))
        check_parted(self, one, other, compare(other, one))
        return compare(one, other).certificate

    def hooks(self, *hooks):
        return book(*SHEET, *hooks)

    def test_the_same_hooks(self):
        one = self.hooks("hook set many behind sheet line order", "hook put behind sheet order")
        self.alike(one, one)
        self.alike(one, one.only([1, 0]))
        self.alike(one, one.only([1, 0, 0, 1]))
        self.alike(one.only([]), one.only([]))
        self.parted(one, one.only([0]))
        self.parted(one, one.only([]))

    def test_equal_ways(self):
        self.alike(self.hooks("hook set many behind sheet line order"),
                   self.hooks("hook set many ahead sheet line order ~line.order order"))

    def test_both_looks_are_one_if_the_way_does_not_use_the_change(self):
        self.alike(self.hooks("hook set ready behind sheet line order"),
                   self.hooks("hook set ready ahead sheet line order"))
        self.alike(self.hooks("hook set paid behind sheet order"), self.hooks("hook set paid ahead sheet order"))
        self.parted(self.hooks("hook set ready behind sheet line[ready] order"),
                    self.hooks("hook set ready ahead sheet line[ready] order"))
        self.parted(self.hooks("hook set order behind sheet line order"),
                    self.hooks("hook set order ahead sheet line order"))
        # Together they are the hook without the flag.
        both = [f"hook set ready {look} sheet line[ready] order" for look in ("behind", "ahead")]
        self.alike(self.hooks(*both), self.hooks("hook set ready behind sheet line order"))

    def test_other_events_looks_and_documents(self):
        lines = SHOP + ["document sheet", "read many order ~line.order", "document more", "read paid order"]
        one = book(*lines, "hook set many behind sheet line order")
        for hook in (
            "hook set ready behind sheet line order", "hook set many behind more line order",
            "hook put behind sheet line order", "hook set many behind sheet line[ready] order",
            "hook set many behind sheet line order[paid]", "hook set many behind sheet line order friend",
        ):
            self.parted(one, book(*lines, hook))

    def test_certificates(self):
        none = self.hooks()
        order = {"paid": False, "friend": None}
        rows = (("line", 1, {"many": 0, "order": 2, "ready": False}), ("order", 2, order))
        for hook, wanted in (
            ("hook put behind sheet order", ((), ("put", "order", 1, order), "sheet", 1)),
            ("hook set many behind sheet line order", (rows, ("set", "line", 1, "many", 1), "sheet", 2)),
            ("hook remove ahead sheet line order", (rows, ("remove", "line", 1), "sheet", 2)),
        ):
            check_same(self, self.parted(self.hooks(hook), none), ("parted", *wanted))
            check_same(self, self.parted(none, self.hooks(hook)), ("parted", *wanted))

    def test_hooks_that_never_meet_anything(self):
        none = self.hooks()
        for hook in (
            "hook put ahead sheet line order", "hook put ahead sheet order", "hook remove behind sheet line order",
            "hook remove ahead sheet order", "hook put behind sheet order ~line.order order",
            "hook remove ahead sheet order ~line.order order",
        ):
            self.alike(self.hooks(hook), none)

    def test_late_hooks_count_as_looks_behind(self):
        late = self.hooks("hook set order late sheet line order")
        self.alike(late, self.hooks("hook set order behind sheet line order"))
        self.parted(late, self.hooks("hook set order ahead sheet line order"))
        self.alike(self.hooks("hook remove late sheet line order"), self.hooks())
        self.alike(self.hooks("hook put late sheet line order"), self.hooks("hook put behind sheet line order"))

    def test_bulk_deeds_do_not_count(self):
        one = self.hooks("hook set many behind sheet line order")
        self.alike(one, self.hooks("hook set many behind sheet line order", "bulk line many", "bulk line order"))
        self.parted(self.hooks("bulk line many"), self.hooks("hook set many behind sheet line order", "bulk line many"))

    def test_the_example_of_point_34(self):
        ahead = book(*CAT, "hook set shown ahead tree cat ~cat.parent[shown]")
        behind = book(*CAT, "hook set shown behind tree cat ~cat.parent[shown]")
        _, rows, deed, name, key = self.parted(ahead, behind)
        check_same(self, (len(rows), name, key), (1, "tree", 1))
        check_same(self, rows[0][2]["parent"], 1)
        # Any other row is met by both or by none.
        one, other = World(ahead), World(behind)
        for store in all_stores(ahead.schema, 2):
            for step, _, there in one.changes(one.place(store)):
                other.place(one.stores[there])
                met = one.early(step, one.place(store), there), other.early(step, other.place(store), there)
                for copy in met[0] ^ met[1]:
                    row = store.cells_of("cat", copy[1])
                    check_same(self, row["parent"], copy[1])
        both = ahead.plus(behind.hooks[0])
        self.alike(both, both.only([1, 0]))
        self.parted(both, ahead)
        self.parted(behind, both)

    def test_other_documents_with_the_same_names_and_bases(self):
        # What is read makes no difference here.
        hook = "hook put behind sheet order"
        self.alike(book(*SHOP, "document sheet", "read paid order", hook),
                   book(*SHOP, "document sheet", "read many order ~line.order", "read paid order", hook))


class Wrong(unittest.TestCase):
    def wrong(self, error, one, other):
        check_error(self, error, compare, one, other)
        for thing in (None, ("alike",), ("parted", (), ("put", "order", 1, {}), "sheet", 1)):
            check_error(self, error, is_parting, one, other, thing)

    def test_schemas_names_and_bases(self):
        one = book(*SHOP, "document sheet", "read paid order", "document more", "read many line")
        for lines in (
            [*SHOP, "flag extra", "document sheet", "read paid order", "document more", "read many line"],
            [*SHOP, "document sheet", "read paid order"],
            [*SHOP, "document more", "read many line", "document sheet", "read paid order"],
            [*SHOP, "document sheet", "read paid order", "document other", "read many line"],
            [*SHOP, "document sheet", "read many line", "document more", "read paid order"],
            [*SHOP, "document sheet", "read paid order", "document more", "read paid order"],
        ):
            self.wrong(("BadBook", "documents", -1), one, book(*lines))
            self.wrong(("BadBook", "documents", -1), book(*lines), one)

    def test_24_and_25_hooks(self):
        one = book(*SHEET, *["hook set many behind sheet line order"] * 24)
        more = one.plus(one.hooks[0])
        check_same(self, bool(compare(one, one.only([0]))), True)
        check_same(self, bool(compare(one, one)), True)
        self.wrong(("TooMany", "hooks"), one, more)
        self.wrong(("TooMany", "hooks"), more, one)
        self.wrong(("TooMany", "hooks"), more, more)
        self.wrong(("BadBook", "documents", -1), more, book(*CAT))


class Parting(unittest.TestCase):
    ONE = book(*SHEET, "hook set order behind sheet line order", "hook put behind sheet line order")
    OTHER = book(*SHEET, "hook set order ahead sheet line order", "hook put behind sheet order")
    ROWS = (("line", 5, {"order": 3}), ("order", 3, {}), ("order", 4, {}))
    DEED = ("set", "line", 5, "order", 4)

    def check_is(self, wanted, rows=ROWS, deed=DEED, name="sheet", key=3):
        thing = ("parted", rows, deed, name, key)
        check_same(self, is_parting(self.ONE, self.OTHER, thing), wanted)
        check_same(self, is_parting(one=self.OTHER, other=self.ONE, thing=thing), wanted)
        check_same(self, is_parting(self.ONE, self.ONE, thing), False)

    def test_good_ones(self):
        self.check_is(True)
        self.check_is(True, key=4)
        self.check_is(True, deed=("set", "line", 5, "order", None))
        self.check_is(True, deed=("put", "order", 9, {}), key=9)
        self.check_is(True, deed=("put", "line", 9, {"order": 4}), key=4)
        self.check_is(True, rows=(), deed=("put", "order", 1, {}), key=1)
        self.check_is(True, rows=self.ROWS[::-1])

    def test_other_rows(self):
        for rows in (
            (), self.ROWS[:2], self.ROWS[1:], list(self.ROWS), None, self.ROWS + self.ROWS[:1], (*self.ROWS, None),
            tuple(list(row) for row in self.ROWS), (("line", 5, {}), *self.ROWS[1:]),
            (("line", 5, {"order": 4}), *self.ROWS[1:]), (("line", True, {"order": 3}), *self.ROWS[1:]),
            self.ROWS + tuple(("order", key, {}) for key in range(10, 50)),
        ):
            self.check_is(False, rows=rows)

    def test_other_deeds(self):
        for deed in (
            None, (), list(self.DEED), (self.DEED,), ("set", "line", 5, "order", 3), ("set", "line", 5, "many", 1),
            ("set", "line", 5, "many", 0), ("set", "line", 6, "order", 4), ("set", "line", 5, "order", 9),
            ("bulk", "line", (5,), "order", 4), ("bulk", "line", (5,), "many", 1), ("remove", "line", 5),
            ("put", "line", 5, {}), ("put", "line", 6, {"order": 3}) + (1,), "set",
            # Two changes: the link is cleared, and then the order is removed.
            ("remove", "order", 3),
        ):
            self.check_is(False, deed=deed)
        self.check_is(True, deed=("put", "line", 6, {"order": 3}))

    def test_removals_of_several_changes(self):
        lines = SHOP[:2] + ["link order order clear"] + SHOP[3:] + ["document sheet", "read many order ~line.order"]
        one, other = book(*lines, "hook set order ahead sheet line order friend"), book(*lines)
        rows = (("line", 5, {"order": 3}), ("order", 3, {"friend": 4}), ("order", 4, {}))
        check_same(self, list(owed_by(one, Store(one.schema, rows), ("remove", "order", 3))), [("sheet", 4)])
        check_same(self, is_parting(one, other, ("parted", rows, ("remove", "order", 3), "sheet", 4)), False)
        set_none = ("set", "line", 5, "order", None)
        check_same(self, is_parting(one, other, ("parted", rows, set_none, "sheet", 4)), True)

    def test_other_copies(self):
        for name, key in (
            ("sheet", 5), ("sheet", 1), ("sheet", True), ("sheet", None), ("sheet", "3"), ("Sheet", 3), ("", 3),
            (None, 3), (["sheet"], 3), ("line", 5), (3, "sheet"), ("sheet", [3]), ("sheet", (3,)), ({}, {}),
        ):
            self.check_is(False, name=name, key=key)

    def test_true_is_not_one(self):
        self.check_is(True, rows=(), deed=("put", "order", 1, {}), key=1)
        for key in (True, "1", (1,), None):
            self.check_is(False, rows=(), deed=("put", "order", 1, {}), key=key)

    def test_any_values(self):
        for thing in (
            None, 0, True, "", "parted", (), ("parted",), ("alike",), [], {}, ("parted", (), ()), ["parted"],
            ("parted", self.ROWS, self.DEED, "sheet"), ("parted", self.ROWS, self.DEED, "sheet", 3, 3),
            ["parted", self.ROWS, self.DEED, "sheet", 3], ("Parted", self.ROWS, self.DEED, "sheet", 3),
            ("stale", self.ROWS, (self.DEED,), "sheet", 3), (True, self.ROWS, self.DEED, "sheet", 3),
            (("parted",), self.ROWS, self.DEED, "sheet", 3), ("parted", None, None, None, None),
            ("parted", {}, {}, {}, {}), ("parted", (((),),), ((),), "sheet", 3),
        ):
            check_same(self, is_parting(self.ONE, self.OTHER, thing), False)


def changed(source, one):
    """Another book for the same documents, somewhat like this one."""
    if source.random() < 0.3:
        return Book(one.documents, source.sample(list(one), len(one)))
    if source.random() < 0.4:
        hooks = [
            hook.looking(source.choice(["ahead", "behind"])) if source.random() < 0.3 else hook for hook in one
        ]
        return Book(one.documents, hooks)
    return changed_book(source, one)


class AgainstAllSmallStores(unittest.TestCase):
    def differ(self, one, other, most):
        """Whether a change in a store of up to so many rows is met by one of the books alone."""
        first, second = World(one), World(other)
        for many in range(1, most + 1):
            for store in all_stores(one.schema, many):
                here = first.place(store)
                second.place(store)
                for step, _, there in list(first.changes(here)):
                    second.place(first.stores[there])
                    pairs = [(step, here, there)]
                    if step[0] == "remove":
                        pairs.append((("put", *step[1:]), there, here))
                    for change, ahead, behind in pairs:
                        if first.early(change, ahead, behind) != second.early(change, ahead, behind):
                            return True
        return False

    def check_pairs(self, schema, seeds, most, steps):
        found = {True: 0, False: 0}
        for seed in seeds:
            source = random.Random(seed)
            document = random_document(source, schema, 2, 1)
            start = list(full_book([document])) if seed % 3 else []
            hooks = [random_hook(source, document, steps) for _ in range(source.randint(1, 4))]
            one = Book([document], (start + hooks)[-8:])
            other = changed(source, one)
            comparison = compare(one, other)
            found[bool(comparison)] += 1
            check_same(self, bool(compare(other, one)), bool(comparison))
            if comparison:
                self.assertFalse(self.differ(one, other, most), (seed, str(one), str(other)))
            else:
                check_parted(self, one, other, comparison)
                if len(comparison.certificate[1]) < most:
                    self.assertTrue(self.differ(one, other, most), seed)
        return found

    def test_a_table_that_links_to_itself(self):
        found = self.check_pairs(CHAIN, range(100), 2, 2)
        self.assertGreater(min(found.values()), 20)

    def test_three_rows(self):
        found = self.check_pairs(CHAIN, range(200, 210), 3, 2)
        self.assertGreater(min(found.values()), 0)

    def test_two_tables(self):
        found = self.check_pairs(PAIR, range(50), 3, 3)
        self.assertGreater(min(found.values()), 5)

    def test_other_schemas(self):
        for schema in (RING, ROAD):
            found = self.check_pairs(schema, range(40), 1, 4)
            self.assertGreater(min(found.values()), 5)

    def test_looks_that_are_turned(self):
        # Hooks with ways of flags that one row may have for several, each ahead and behind.
        found = {True: 0, False: 0}
        source = random.Random(5)
        for _ in range(60):
            document = random_document(source, CHAIN, 1, 1)
            hook = random_hook(source, document, 3)
            one, other = Book([document], [hook]), Book([document], [
                hook.looking("ahead" if hook.look == "behind" else "behind"),
                *[random_hook(source, document, 1) for _ in range(2)],
            ])
            comparison = compare(one, other)
            found[bool(comparison)] += 1
            if comparison:
                self.assertFalse(self.differ(one, other, 2), str(other))
            else:
                check_parted(self, one, other, comparison)
        self.assertGreater(found[False], 20)

    def test_late_hooks(self):
        for at in range(30):
            source = random.Random(at)
            one = late_book(source, full_book([straight_document(source, ROAD, 2, 1)]))
            behind = Book(one.documents, [hook.looking("behind") if hook.look == "late" else hook for hook in one])
            check_same(self, compare(one, behind).certificate, ("alike",))
            other = late_book(source, one)
            comparison = compare(one, other)
            check_same(self, bool(compare(other, one)), bool(comparison))
            if not comparison:
                check_parted(self, one, other, comparison)


class OtherSchemas(unittest.TestCase):
    def test_equal_schemas(self):
        text = "\n".join(CAT[:3])
        books = [
            Book([Document("tree", (Way(Schema(text), "cat"), "shown"))], []) for _ in range(2)
        ]
        check_same(self, bool(compare(*books)), True)


if __name__ == "__main__":
    unittest.main()
