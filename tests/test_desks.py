import random
import unittest

from owedrebuilds.books import Book
from owedrebuilds.desks import Desk, HookedRow, Run, owed_by
from owedrebuilds.errors import Failed, OwedError, Refused
from owedrebuilds.stores import Row, Store
from helpers import check_error, check_same, error_of, random_cell, random_store
from models import Fault, Model, told

BOOK = Book.read("\n".join([
    "table line",
    "value many",
    "link order order cascade",
    "flag ready",
    "table order",
    "link customer customer clear",
    "flag paid",
    "table customer",
    "value age",
    "document sheet",
    "read many order ~line.order[ready]",
    "read paid order",
    "document ages",
    "read age customer",
    "read paid customer ~order.customer",
    "hook set many behind sheet line order",
    "hook set order ahead sheet line order",
    "hook set order behind sheet line order",
    "hook set ready late sheet line order",
    "hook put behind sheet line order",
    "hook remove ahead sheet line order",
    "hook put behind sheet order",
    "hook set paid behind sheet order",
    "hook set paid behind ages order customer",
    "hook put late ages customer",
    "hook set age behind ages customer",
    "bulk line many",
    "bulk order paid",
]))
SCHEMA = BOOK.schema


def rows():
    return [
        ("customer", 5, {"age": 50}),
        ("customer", 6, {"age": 60}),
        ("order", 2, {"customer": 5, "paid": True}),
        ("order", 1, {"customer": 5}),
        ("order", 3, {}),
        ("line", 9, {"order": 1, "many": 4, "ready": True}),
        ("line", 8, {"order": 1, "many": 5}),
        ("line", 10, {"order": 2, "many": 3, "ready": True}),
    ]


def store():
    return Store(SCHEMA, rows())


def desk(most=200):
    return Desk(BOOK, store(), most=most)


def state(one):
    """All that can be read off a desk."""
    contents = [(copy, one.content(*copy)) for copy in one.copies()]
    return (one.store().rows(), contents, one.stale(), one.most)


class Making(unittest.TestCase):
    def test_all_copies_are_built(self):
        one = desk()
        check_same(self, one.copies(), [("sheet", 1), ("sheet", 2), ("sheet", 3), ("ages", 5), ("ages", 6)])
        check_same(self, one.content("sheet", 1), ((((1, 9), 4),), (((1,), False),)))
        check_same(self, one.content(name="sheet", key=3), ((), (((3,), False),)))
        check_same(self, one.content("ages", 5), ((((5,), 50),), (((5, 1), False), ((5, 2), True))))
        check_same(self, one.content("ages", 6), ((((6,), 60),), ()))
        check_same(self, one.stale(), [])

    def test_attributes(self):
        one = Desk(BOOK, store())
        self.assertTrue(one.book is BOOK)
        check_same(self, one.most, 200)
        check_same(self, Desk(book=BOOK, store=store(), most=7).most, 7)
        with self.assertRaises(TypeError):
            Desk(BOOK, store(), 7)

    def test_contents_that_are_not_there(self):
        one = desk()
        for name, key in (
            ("sheet", 4), ("sheet", 5), ("ages", 1), ("oops", 1), ("", 1), ("line", 8), ("sheet", 10 ** 9),
        ):
            check_error(self, ("NoDocument", name, key), one.content, name, key)

    def test_an_empty_store(self):
        one = Desk(BOOK, Store(SCHEMA, []))
        check_same(self, (one.copies(), one.stale(), one.store().rows()), ([], [], []))
        check_error(self, ("NoDocument", "sheet", 1), one.content, "sheet", 1)

    def test_the_store_is_copied(self):
        given = store()
        one = Desk(BOOK, given)
        given.remove("order", 1)
        check_same(self, one.copies()[0], ("sheet", 1))
        check_same(self, (one.stale(), one.store().rows()), ([], store().rows()))
        out = one.store()
        self.assertIsInstance(out, Store)
        out.remove("order", 1)
        check_same(self, one.store().rows(), store().rows())
        one.do(("remove", "customer", 5))
        check_same(self, len(given.rows()), 5)

    def test_too_long(self):
        self.assertEqual(len(desk(most=3).copies()), 5)
        check_error(self, ("TooLong", "ages", 5, 2), desk, 2)
        check_error(self, ("TooLong", "sheet", 1, 1), desk, 1)
        check_error(self, ("TooLong", "sheet", 1, 0), desk, 0)
        check_error(self, ("TooLong", "ages", 5, 0), Desk, BOOK, Store(SCHEMA, rows()[:2]), most=0)
        check_same(self, Desk(BOOK, Store(SCHEMA, []), most=0).copies(), [])

    def test_copies_without_trails_can_always_be_built(self):
        book = Book.read("\n".join([str(SCHEMA), "document doc", "read many order ~line.order"]))
        bare = Store(SCHEMA, [("order", 1, {}), ("order", 2, {})])
        check_same(self, Desk(book, bare, most=0).content("doc", 2), ((),))
        bare.put("line", 4, order=2)
        check_error(self, ("TooLong", "doc", 2, 0), Desk, book, bare, most=0)

    def test_a_thousand_trails_and_more(self):
        book = Book.read("\n".join([
            "table cat", "link parent cat clear", "value name", "document tree",
            "read name cat ~cat.parent parent ~cat.parent parent ~cat.parent",
        ]))
        for many, most, good in (
            (10, 1000, True), (11, 1000, False), (40, 1000, False), (6, 216, True), (6, 215, False),
        ):
            family = Store(book.schema, [("cat", key, {"parent": many}) for key in range(1, many + 1)])
            if good:
                found = Desk(book, family, most=most).content("tree", many)
                check_same(self, len(found[0]), many ** 3)
            else:
                check_error(self, ("TooLong", "tree", many, most), Desk, book, family, most=most)

    def test_no_iteration(self):
        with self.assertRaises(TypeError):
            iter(desk())
        with self.assertRaises(TypeError):
            list(desk())
        with self.assertRaises(TypeError):
            ("order", 1) in desk()


class Collected(unittest.TestCase):
    def check_run(self, run, made, owed, built):
        self.assertIsInstance(run, Run)
        check_same(self, (run.made, run.owed, run.built), (made, owed, built))
        check_same(self, (len(run), bool(run)), (len(made), len(made) > 0))

    def test_nothing(self):
        one = desk()
        before = state(one)
        self.check_run(one.do(), (), (), 0)
        self.check_run(one.do(at_once=True), (), (), 0)
        self.check_run(one.do(("set", "line", 8, "many", 5)), (), (), 0)
        check_same(self, state(one), before)

    def test_a_set_that_a_hook_answers(self):
        one = desk()
        run = one.do(("set", "line", 9, "many", 7))
        self.check_run(run, (("set", "line", 9, "many", 4, 7),), (("sheet", 1),), 1)
        check_same(self, one.content("sheet", 1), ((((1, 9), 7),), (((1,), False),)))
        check_same(self, one.store().cell_of("line", 9, "many"), 7)
        check_same(self, one.stale(), [])

    def test_a_set_that_no_hook_answers(self):
        one = desk()
        run = one.do(("set", "order", 1, "customer", 6))
        self.check_run(run, (("set", "order", 1, "customer", 5, 6),), (), 0)
        check_same(self, one.stale(), [("ages", 5), ("ages", 6)])
        check_same(self, one.content("ages", 6), ((((6,), 60),), ()))

    def test_a_move_is_seen_ahead_and_behind(self):
        one = desk()
        run = one.do(("set", "line", 9, "order", 3))
        self.check_run(run, (("set", "line", 9, "order", 1, 3),), (("sheet", 1), ("sheet", 3)), 2)
        check_same(self, one.stale(), [])
        one = desk()
        run = one.do(("set", "line", 10, "order", 1))
        self.check_run(run, (("set", "line", 10, "order", 2, 1),), (("sheet", 2), ("sheet", 1)), 2)

    def test_a_late_hook(self):
        one = desk()
        run = one.do(("set", "line", 8, "ready", True), ("set", "line", 10, "many", 1))
        self.check_run(run, (
            ("set", "line", 8, "ready", False, True), ("set", "line", 10, "many", 3, 1),
        ), (("sheet", 2), ("sheet", 1)), 2)
        check_same(self, one.stale(), [])

    def test_a_late_hook_walks_at_the_end(self):
        # Both looks of the move meet their copies; the late hook alone meets none where the row went.
        run = desk().do(("set", "line", 9, "ready", False), ("set", "line", 9, "order", None))
        check_same(self, run.owed, (("sheet", 1),))
        run = desk().do(("set", "line", 9, "ready", False), ("remove", "line", 9))
        check_same(self, run.owed, (("sheet", 1),))
        book = BOOK.only([3, 6])
        for deeds, owed in (
            ((), (("sheet", 1),)),
            ((("set", "line", 9, "order", 3),), (("sheet", 3),)),
            ((("set", "line", 9, "order", None),), ()),
            ((("remove", "line", 9),), ()),
            ((("remove", "line", 9), ("put", "line", 9, {"order": 2})), (("sheet", 2),)),
            ((("remove", "order", 1), ("put", "order", 1, {})), (("sheet", 1),)),
            ((("remove", "order", 1), ("put", "order", 1, {}), ("put", "line", 9, {"order": 1})), (("sheet", 1),)),
        ):
            one = Desk(book, store())
            check_same(self, one.do(("set", "line", 9, "ready", False), *deeds).owed, owed)

    def test_a_put(self):
        one = desk()
        run = one.do(("put", "order", 7, {"paid": True}))
        self.check_run(run, (("put", "order", 7, {"customer": None, "paid": True}),), (("sheet", 7),), 1)
        check_same(self, one.content("sheet", 7), ((), (((7,), True),)))
        check_same(self, one.copies(), [
            ("sheet", 1), ("sheet", 2), ("sheet", 3), ("sheet", 7), ("ages", 5), ("ages", 6),
        ])

    def test_a_put_that_no_hook_answers(self):
        one = Desk(BOOK.only([0]), store())
        run = one.do(("put", "order", 7, {}))
        self.check_run(run, (("put", "order", 7, {"customer": None, "paid": False}),), (), 0)
        check_same(self, one.stale(), [("sheet", 7)])
        check_error(self, ("NoDocument", "sheet", 7), one.content, "sheet", 7)
        self.assertNotIn(("sheet", 7), one.copies())
        # It stays missing until it is met.
        one.do(("put", "line", 1, {"order": 7}))
        check_same(self, one.stale(), [("sheet", 7)])
        one.do(("set", "line", 1, "many", 2))
        check_same(self, one.stale(), [])
        check_same(self, one.content("sheet", 7), ((), (((7,), False),)))

    def test_a_removal(self):
        one = desk()
        run = one.do(("remove", "order", 1))
        self.check_run(run, (
            ("remove", "line", 9, {"many": 4, "order": 1, "ready": True}),
            ("remove", "line", 8, {"many": 5, "order": 1, "ready": False}),
            ("remove", "order", 1, {"customer": 5, "paid": False}),
        ), (("sheet", 1),), 0)
        check_same(self, one.copies(), [("sheet", 2), ("sheet", 3), ("ages", 5), ("ages", 6)])
        check_error(self, ("NoDocument", "sheet", 1), one.content, "sheet", 1)
        check_same(self, one.stale(), [("ages", 5)])

    def test_a_copy_is_met_only_if_its_row_is_there_behind_the_change(self):
        book = Book.read("\n".join([
            "table cat", "link parent cat clear", "flag shown", "document tree", "read shown cat",
            "hook remove ahead tree cat", "hook remove ahead tree cat parent", "hook put ahead tree cat",
        ]))
        family = Store(book.schema, [("cat", 1, {}), ("cat", 2, {"parent": 1})])
        one = Desk(book, family)
        run = one.do(("put", "cat", 3, {}), ("remove", "cat", 2))
        check_same(self, run.owed, (("tree", 1),))
        check_same(self, one.do(("remove", "cat", 1)).owed, ())
        check_same(self, list(owed_by(book, family, ("remove", "cat", 2))), [("tree", 1)])

    def test_rows_that_are_removed_and_put_again(self):
        one = desk()
        run = one.do(("set", "line", 9, "many", 1), ("remove", "order", 1), ("put", "order", 1, {}))
        check_same(self, (run.owed, run.built), ((("sheet", 1),), 1))
        check_same(self, one.content("sheet", 1), ((), (((1,), False),)))
        # What was owed ahead of the removal is built behind it, too, though no hook meets the put.
        one = Desk(BOOK.only([0]), store())
        run = one.do(("set", "line", 9, "many", 1), ("remove", "order", 1), ("put", "order", 1, {"paid": True}))
        check_same(self, (run.owed, run.built), ((("sheet", 1),), 1))
        check_same(self, one.content("sheet", 1), ((), (((1,), True),)))
        check_same(self, one.stale(), [("ages", 5)])

    def test_a_copy_that_is_owed_and_removed_is_not_built(self):
        run = desk().do(("set", "line", 9, "many", 1), ("remove", "order", 1))
        check_same(self, (run.owed, run.built), ((("sheet", 1),), 0))

    def test_a_copy_is_built_once(self):
        run = desk().do(*[("set", "line", 9, "many", number) for number in range(10, 20)])
        check_same(self, (len(run), run.owed, run.built), (10, (("sheet", 1),), 1))

    def test_bulk_deeds(self):
        one = desk()
        run = one.do(("bulk", "line", (10, 8, 9), "many", 5))
        self.check_run(run, (("set", "line", 10, "many", 3, 5), ("set", "line", 9, "many", 4, 5)), (), 0)
        check_same(self, one.stale(), [("sheet", 1), ("sheet", 2)])
        self.check_run(one.do(("bulk", "order", (), "paid", True)), (), (), 0)

    def test_order_of_owed_copies(self):
        one = desk()
        run = one.do(
            ("set", "line", 9, "ready", False), ("put", "customer", 7, {}), ("set", "order", 2, "paid", False),
            ("set", "line", 10, "order", 1), ("put", "order", 3000, {}), ("set", "line", 8, "ready", True),
        )
        check_same(self, run.owed, (
            ("sheet", 2), ("ages", 5), ("sheet", 1), ("sheet", 3000), ("ages", 7),
        ))
        check_same(self, run.built, 5)
        self.assertEqual(one.stale(), [])

    def test_ahead_hooks_are_first_whatever_their_place(self):
        book = BOOK.only([2, 1])
        run = Desk(book, store()).do(("set", "line", 10, "order", 1))
        check_same(self, run.owed, (("sheet", 2), ("sheet", 1)))
        both = BOOK.only([8, 7])
        run = Desk(both, store()).do(("set", "order", 2, "paid", False))
        check_same(self, run.owed, (("ages", 5), ("sheet", 2)))

    def test_keys_of_one_hook_ascend(self):
        book = Book.read("\n".join([
            str(SCHEMA), "document sheet", "read age order customer",
            "hook set age behind sheet customer ~order.customer",
        ]))
        run = Desk(book, store()).do(("set", "customer", 5, "age", 1))
        check_same(self, run.owed, (("sheet", 1), ("sheet", 2)))

    def test_content_that_comes_back(self):
        one = Desk(BOOK.only([]), store())
        one.do(("set", "line", 9, "many", 1))
        check_same(self, one.stale(), [("sheet", 1)])
        one.do(("set", "line", 9, "many", 4))
        check_same(self, one.stale(), [])

    def test_thirty_deeds(self):
        one = desk()
        check_same(self, len(one.do(*[("set", "line", 9, "many", 100 + at) for at in range(30)])), 30)


class AtOnce(unittest.TestCase):
    def test_copies_are_built_behind_each_change(self):
        one = desk()
        run = one.do(*[("set", "line", 9, "many", number) for number in range(10, 20)], at_once=True)
        check_same(self, (len(run), run.owed, run.built), (10, (("sheet", 1),), 10))
        check_same(self, one.content("sheet", 1)[0], (((1, 9), 19),))

    def test_an_ahead_hook_builds_behind_the_change(self):
        one = Desk(BOOK.only([1]), store())
        run = one.do(("set", "line", 9, "order", 3), at_once=True)
        check_same(self, (run.owed, run.built), ((("sheet", 1),), 1))
        check_same(self, one.content("sheet", 1)[0], ())
        check_same(self, one.stale(), [("sheet", 3)])

    def test_late_hooks_build_at_the_end(self):
        one = desk()
        run = one.do(("set", "line", 8, "ready", True), ("set", "line", 8, "many", 6), at_once=True)
        check_same(self, (run.owed, run.built), ((("sheet", 1),), 2))
        check_same(self, one.stale(), [])
        run = one.do(("set", "line", 8, "ready", False), ("set", "line", 9, "ready", False), at_once=True)
        check_same(self, (run.owed, run.built), ((("sheet", 1),), 1))

    def test_what_was_met_ahead_of_a_removal_is_not_built_again(self):
        # Collected, the copy is still owed; at once it was built, and dropped with its row.
        deeds = (("set", "line", 9, "many", 1), ("remove", "order", 1), ("put", "order", 1, {}))
        one = Desk(BOOK.only([0]), store())
        run = one.do(*deeds, at_once=True)
        check_same(self, (run.owed, run.built), ((("sheet", 1),), 1))
        check_same(self, one.stale(), [("sheet", 1), ("ages", 5)])
        check_error(self, ("NoDocument", "sheet", 1), one.content, "sheet", 1)

    def test_changes_of_one_deed(self):
        one = desk()
        run = one.do(("remove", "order", 1), at_once=True)
        check_same(self, (run.owed, run.built), ((("sheet", 1),), 2))

    def test_bulk_deeds(self):
        one = desk()
        run = one.do(("bulk", "line", (9,), "many", 5), at_once=True)
        check_same(self, (run.owed, run.built, one.stale()), ((), 0, [("sheet", 1)]))


class Failing(unittest.TestCase):
    def fails(self, wanted, *deeds, at_once=False, one=None):
        """The transaction raises this error and leaves the desk as it was."""
        one = one or desk()
        before = state(one)
        try:
            one.do(*deeds, at_once=at_once)
        except OwedError as error:
            check_same(self, told(error), wanted)
        else:
            self.fail("no error")
        check_same(self, state(one), before)
        return one

    def refused(self, at, why, *deeds):
        self.fails(("Refused", at, *why), *deeds)
        self.fails(("Refused", at, *why), *deeds, at_once=True)

    def test_deeds_that_are_errors(self):
        good = ("set", "line", 9, "many", 1)
        for deed, why in (
            (None, ("BadDeed", None)),
            (["set", "line", 9, "many", 1], ("BadDeed", ["set", "line", 9, "many", 1])),
            (("set", "line", True, "many", 1), ("BadDeed", ("set", "line", True, "many", 1))),
            (("set", "oops", 9, "many", 1), ("NoTable", "oops")),
            (("set", "line", 1, "many", 1), ("NoRow", "line", 1)),
            (("set", "line", 9, "oops", 1), ("NoColumn", "line", "oops")),
            (("set", "line", 9, "many", True), ("BadCell", "line", "many", True)),
            (("set", "line", 9, "order", 4), ("BadCell", "line", "order", 4)),
            (("put", "line", 9, {}), ("Taken", "line", 9)),
            (("remove", "customer", 9), ("NoRow", "customer", 9)),
            (("bulk", "line", (9, 1), "many", 1), ("NoRow", "line", 1)),
        ):
            self.refused(0, why, deed)
            self.refused(0, why, deed, None)
            self.refused(2, why, good, ("remove", "order", 1) if deed == ("remove", "customer", 9) else good, deed)

    def test_held(self):
        book = Book.read("\n".join([
            "table a", "link b b refuse", "table b", "flag f", "document doc", "read f b", "hook put behind doc b",
        ]))
        one = Desk(book, Store(book.schema, [("b", 1, {}), ("b", 2, {}), ("a", 4, {"b": 2})]))
        self.fails(("Refused", 1, "Held", "a", 4), ("remove", "b", 1), ("remove", "b", 2), one=one)
        check_same(self, len(one.do(("remove", "b", 1))), 1)

    def test_bulk_columns_that_are_not_listed(self):
        self.refused(0, ("NotBulk", "line", "ready"), ("bulk", "line", (9,), "ready", True))
        self.refused(0, ("NotBulk", "line", "ready"), ("bulk", "line", (), "ready", True))
        deeds = (("bulk", "line", (9,), "many", 1), ("bulk", "customer", (), "age", 5))
        self.refused(1, ("NotBulk", "customer", "age"), *deeds)

    def test_not_bulk_comes_behind_all_other_errors_of_the_deed(self):
        for deed, why in (
            (("bulk", "line", [9], "ready", True), ("BadDeed", ("bulk", "line", [9], "ready", True))),
            (("bulk", "oops", (9,), "ready", True), ("NoTable", "oops")),
            (("bulk", "line", (9,), "oops", True), ("NoColumn", "line", "oops")),
            (("bulk", "line", (9, 1), "ready", True), ("NoRow", "line", 1)),
            (("bulk", "line", (9,), "ready", 1), ("BadCell", "line", "ready", 1)),
            (("bulk", "line", (), "ready", None), ("BadCell", "line", "ready", None)),
        ):
            self.refused(0, why, deed)
        self.refused(0, ("NotBulk", "line", "ready"), ("bulk", "line", (9,), "ready", True), None)

    def test_more_than_thirty_deeds(self):
        self.fails(("TooMany", "deeds"), *[("set", "line", 9, "many", at) for at in range(31)])
        self.fails(("TooMany", "deeds"), *[None] * 31)
        self.fails(("TooMany", "deeds"), *[None] * 40, at_once=True)
        self.refused(0, ("BadDeed", None), *[None] * 30)

    def test_rows_that_are_too_many(self):
        full = [("customer", key, {}) for key in range(1, 40)]
        one = Desk(BOOK, Store(SCHEMA, full))
        self.fails(("Refused", 1, "TooMany", "rows"), ("put", "line", 1, {}), ("put", "line", 2, {}), one=one)
        check_same(self, len(one.do(("put", "line", 1, {}))), 1)

    def test_copies_that_cannot_be_built(self):
        more = [("put", "line", key, {"order": 1, "ready": True}) for key in (1, 2, 3)]
        why = ("TooLong", "sheet", 1, 4)
        self.fails(("Failed", 0, *why), *more, one=desk(4))
        # At once the last one is the first that makes too many trails.
        self.fails(("Failed", 2, *why), *more, at_once=True, one=desk(4))
        # The blame is where the copy was owed first.
        ahead = (("set", "customer", 5, "age", 1), ("set", "order", 2, "paid", False))
        self.fails(("Failed", 2, *why), *ahead, *more, one=desk(4))
        self.fails(("Failed", 4, *why), *ahead, *more, at_once=True, one=desk(4))
        one = desk(4)
        check_same(self, len(one.do(*more[:2])), 2)
        self.fails(("Failed", 0, *why), more[2], one=one)

    def test_the_first_copy_that_cannot_be_built(self):
        deeds = [("set", "order", 3, "customer", 5), ("set", "customer", 5, "age", 0)]
        deeds += [("put", "line", key, {"order": 2, "ready": True}) for key in (1, 2)]
        # Documents come first, whatever was owed first.
        self.fails(("Failed", 2, "TooLong", "sheet", 2, 3), *deeds, one=desk(3))
        self.fails(("Failed", 1, "TooLong", "ages", 5, 3), *deeds, at_once=True, one=desk(3))

    def test_an_error_of_any_deed_comes_first_if_collected(self):
        more = [("put", "line", key, {"order": 1, "ready": True}) for key in (1, 2, 3)]
        self.fails(("Refused", 3, "BadDeed", None), *more, None, one=desk(4))
        self.fails(("Failed", 2, "TooLong", "sheet", 1, 4), *more, None, at_once=True, one=desk(4))
        self.fails(("Refused", 2, "BadDeed", None), *more[:2], None, more[2], at_once=True, one=desk(4))

    def test_late_copies_that_cannot_be_built(self):
        book = BOOK.only([3, 6])
        deeds = [("put", "line", key, {"order": 1}) for key in (1, 2, 3)]
        deeds += [("set", "line", key, "ready", True) for key in (3, 2, 1)]
        for at_once in (False, True):
            one = Desk(book, store(), most=4)
            self.fails(("Failed", 3, "TooLong", "sheet", 1, 4), *deeds, at_once=at_once, one=one)
            self.fails(("Refused", 6, "NoRow", "line", 7), *deeds, ("remove", "line", 7), at_once=at_once, one=one)
            check_same(self, len(one.do(*deeds[:-1], at_once=at_once)), 5)

    def test_at_once_a_late_hook_is_to_blame_for_what_it_met_first(self):
        # The behind hook meets the copy by the first deed already, and can build it there.
        deeds = [("set", "line", 8, "many", 1), ("put", "customer", 7, {}), ("set", "line", 8, "ready", True)]
        self.fails(("Failed", 0, "TooLong", "sheet", 1, 2), *deeds, one=Desk(BOOK.only([0, 3, 6]), small(), most=2))
        self.fails(("Failed", 2, "TooLong", "sheet", 1, 2), *deeds, at_once=True,
                   one=Desk(BOOK.only([0, 3, 6]), small(), most=2))

    def test_good_deeds_behind_a_failed_transaction(self):
        one = self.fails(("Refused", 1, "BadDeed", 0), ("remove", "order", 1), 0)
        check_same(self, one.do(("set", "line", 9, "many", 6)).owed, (("sheet", 1),))
        check_same(self, one.content("sheet", 1)[0], (((1, 9), 6),))
        check_same(self, one.stale(), [])

    def test_classes_of_errors(self):
        for wanted, deeds, most in (
            (Refused, [None], 200), (Failed, [("put", "line", 1, {"order": 1, "ready": True})] * 1, 3),
        ):
            one = desk(most)
            if wanted is Failed:
                one.do(("put", "line", 2, {"order": 1, "ready": True}))
            with self.assertRaises(wanted) as caught:
                one.do(*deeds)
            self.assertIsInstance(caught.exception.why, OwedError)
            check_same(self, caught.exception.at, 0)


def small():
    return Store(SCHEMA, [
        ("order", 1, {}), ("line", 8, {"order": 1}), ("line", 9, {"order": 1, "ready": True}),
    ])


class Rows(unittest.TestCase):
    def test_reading(self):
        one = desk()
        row = one["line", 9]
        self.assertIsInstance(row, HookedRow)
        self.assertIsInstance(row, Row)
        check_same(self, (row.table, row.key), ("line", 9))
        check_same(self, row["many"], 4)
        check_same(self, row.cells, {"many": 4, "order": 1, "ready": True})
        check_error(self, ("NoColumn", "line", "oops"), row.__getitem__, "oops")

    def test_no_such_row(self):
        one = desk()
        check_error(self, ("NoTable", "oops"), one.__getitem__, ("oops", 1))
        check_error(self, ("NoRow", "line", 1), one.__getitem__, ("line", 1))

    def test_the_rows_as_they_are_now(self):
        one = desk()
        row = one["line", 9]
        one.do(("set", "line", 9, "many", 1))
        check_same(self, row["many"], 1)
        one.do(("set", "line", 9, "many", 2), at_once=True)
        check_same(self, row.cells, {"many": 2, "order": 1, "ready": True})
        self.assertEqual(error_of(one.do, ("set", "line", 9, "many", 3), None)[0], "Refused")
        check_same(self, row["many"], 2)
        one.do(("remove", "line", 9))
        for action in (lambda: row["many"], lambda: row.cells, lambda: row.step("order")):
            check_error(self, ("NoRow", "line", 9), action)
        one.do(("put", "line", 9, {"many": 8}))
        check_same(self, row["many"], 8)
        cells = row.cells
        cells["many"] = 0
        check_same(self, row["many"], 8)

    def test_setting_is_a_collected_transaction(self):
        one = desk()
        row = one["line", 9]
        row["many"] = 7
        check_same(self, (row["many"], one.stale()), (7, []))
        check_same(self, one.content("sheet", 1)[0], (((1, 9), 7),))
        row["ready"] = False
        check_same(self, one.content("sheet", 1)[0], ())
        row["ready"] = False
        one["order", 1]["customer"] = 6
        check_same(self, one.stale(), [("ages", 5), ("ages", 6)])

    def set_fails(self, wanted, one, row, column, cell):
        before = state(one)
        with self.assertRaises(OwedError) as caught:
            row[column] = cell
        check_same(self, told(caught.exception), wanted)
        check_same(self, state(one), before)

    def test_setting_that_fails(self):
        one = desk(3)
        row = one["line", 9]
        self.set_fails(("Refused", 0, "NoColumn", "line", "oops"), one, row, "oops", 1)
        self.set_fails(("Refused", 0, "BadCell", "line", "many", None), one, row, "many", None)
        self.set_fails(("Refused", 0, "BadCell", "line", "order", 9), one, row, "order", 9)
        one.do(("put", "line", 1, {"order": 1, "ready": True}))
        self.set_fails(("Failed", 0, "TooLong", "sheet", 1, 3), one, one["line", 8], "ready", True)
        one.do(("remove", "line", 9))
        self.set_fails(("Refused", 0, "NoRow", "line", 9), one, row, "many", 1)

    def test_step(self):
        one = desk()
        order = one["line", 9].step("order")
        self.assertIsInstance(order, HookedRow)
        check_same(self, (order.table, order.key), ("order", 1))
        order["paid"] = True
        check_same(self, one.stale(), [])
        check_same(self, one.content("ages", 5)[1], (((5, 1), True), ((5, 2), True)))
        check_same(self, order.step(link="customer")["age"], 50)
        check_same(self, one["order", 3].step("customer"), None)
        for column in ("many", "ready", "oops"):
            check_error(self, ("NoColumn", "line", column), one["line", 9].step, column)

    def test_equality(self):
        one, other, rest = desk(), desk(), store()
        row = one["line", 9]
        self.assertTrue(row == one["line", 9])
        self.assertTrue(row == other["line", 9])
        self.assertTrue(row == rest["line", 9])
        self.assertTrue(rest["line", 9] == row)
        self.assertTrue(row.step("order") == rest["order", 1])
        self.assertFalse(row != rest["line", 9])
        for thing in (one["line", 8], rest["line", 10], one["order", 1], ("line", 9), None, 9, row.cells, one):
            self.assertFalse(row == thing)
            self.assertTrue(row != thing)

    def test_no_iteration(self):
        with self.assertRaises(TypeError):
            iter(desk()["line", 9])
        with self.assertRaises(TypeError):
            "many" in desk()["line", 9]


class TwoDesks(unittest.TestCase):
    def test_over_one_book_and_one_store(self):
        given = store()
        one, other = Desk(BOOK, given), Desk(BOOK, given)
        one.do(("remove", "order", 1))
        check_same(self, other.store().rows(), store().rows())
        check_same(self, len(other.copies()), 5)
        other["line", 9]["many"] = 1
        check_same(self, len(one.copies()), 4)
        check_same(self, given.rows(), store().rows())

    def test_what_is_returned_can_be_changed(self):
        one = desk()
        one.copies().clear()
        one.stale().append(None)
        check_same(self, (len(one.copies()), one.stale()), (5, []))

    def test_what_is_handed_in_can_be_changed(self):
        one = desk()
        cells = {"order": 1, "ready": True}
        deed = ("put", "line", 1, cells)
        run = one.do(deed)
        cells["order"] = 2
        check_same(self, run.made, (("put", "line", 1, {"many": 0, "order": 1, "ready": True}),))
        check_same(self, one["line", 1]["order"], 1)
        check_same(self, deed, ("put", "line", 1, {"order": 2, "ready": True}))


class OwedBy(unittest.TestCase):
    def owed(self, wanted, deed, book=BOOK):
        given = store()
        check_same(self, list(owed_by(book, given, deed)), wanted)
        check_same(self, list(owed_by(book=book, store=given, deed=deed)), wanted)
        check_same(self, given.rows(), store().rows())

    def test_sets(self):
        self.owed([("sheet", 1)], ("set", "line", 9, "many", 1))
        self.owed([], ("set", "line", 9, "many", 4))
        self.owed([("sheet", 1), ("sheet", 2)], ("set", "line", 10, "order", 1))
        self.owed([("sheet", 2), ("ages", 5)], ("set", "order", 2, "paid", False))
        self.owed([("sheet", 1)], ("set", "line", 8, "ready", True))
        self.owed([], ("set", "order", 1, "customer", 6))

    def test_by_documents_and_keys_not_as_they_are_met(self):
        self.owed([("sheet", 2), ("ages", 5)], ("set", "order", 2, "paid", False), BOOK.only([8, 7]))

    def test_puts(self):
        self.owed([("sheet", 8)], ("put", "order", 8, {}))
        self.owed([("sheet", 2)], ("put", "line", 1, {"order": 2}))
        self.owed([("ages", 9)], ("put", "customer", 9, {}))

    def test_removals(self):
        self.owed([("sheet", 2)], ("remove", "line", 10))
        # The copy is met when the first line goes; later its own row goes, too.
        self.owed([("sheet", 1)], ("remove", "order", 1))
        self.owed([], ("remove", "customer", 5))

    def test_late_hooks_walk_behind_all_changes_of_the_deed(self):
        book = Book.read("\n".join([
            "table line", "link order order clear", "table order", "flag paid", "document sheet", "read paid order",
            "hook set order late sheet line order", "hook remove late sheet order",
        ]))
        given = Store(book.schema, [("order", 1, {}), ("order", 2, {}), ("line", 5, {"order": 1})])
        check_same(self, list(owed_by(book, given, ("set", "line", 5, "order", 2))), [("sheet", 2)])
        check_same(self, list(owed_by(book, given, ("remove", "order", 1))), [])

    def test_bulk_deeds(self):
        self.owed([], ("bulk", "line", (9,), "many", 1))
        self.owed([], ("bulk", "line", (9,), "ready", False))


class AgainstTheWords(unittest.TestCase):
    """Random transactions on random stores, held against a slow desk."""

    BOOKS = (
        BOOK,
        BOOK.only([0, 3, 4, 9, 10]),
        BOOK.only([3, 1, 2, 6, 5]),
        Book.read("\n".join([
            "table cat", "link parent cat cascade", "link other cat clear", "flag shown", "value name",
            "table hat", "link cat cat refuse", "flag new",
            "document tree", "read name cat[shown] ~cat.parent", "read new cat ~hat.cat",
            "document hats", "read shown hat cat other",
            "hook set parent ahead tree cat parent", "hook set parent behind tree cat parent[shown]",
            "hook remove ahead tree cat other", "hook put behind tree cat", "hook put behind hats hat[new]",
            "hook set new ahead hats hat", "hook set new behind tree hat cat ~cat.parent",
            "hook set other ahead hats cat ~hat.cat", "hook remove ahead hats cat ~cat.other ~hat.cat",
            "hook set shown behind hats cat ~cat.other ~hat.cat", "bulk cat name", "bulk cat parent",
        ])),
        Book.read("\n".join([
            "table a", "flag f", "table b", "link a a cascade", "flag f", "value v", "table c", "link b b clear",
            "flag f", "document doc", "read v a ~b.a[f]", "read f a[f] ~b.a ~c.b[f]",
            "hook set f late doc c b a", "hook set b late doc c b[f] a", "hook set b ahead doc c b a",
            "hook set a late doc b a", "hook put late doc a", "hook put behind doc b a", "hook remove ahead doc c b a",
            "hook set f late doc a", "hook set v late doc b[f] a", "bulk c f",
        ])),
    )

    def random_deed(self, source, now, schema):
        table = source.choice(schema.tables)
        keys = {name: now.row_keys(name) for name in schema.tables}
        column = source.choice(schema.columns(table))
        cell = random_cell(source, schema, table, column, keys)
        form = source.choice(["put", "set", "set", "set", "remove", "bulk"])
        if source.random() < 0.03:
            return source.choice([
                None, ("set", table, 1, column), ("remove", "oops", 1), ("put", table, 1, {column: "x"}),
            ])
        if form == "put":
            return ("put", table, source.randint(1, 9), {column: cell} if source.random() < 0.8 else {})
        if form == "bulk":
            some = [key for key in keys[table] if source.random() < 0.7]
            return ("bulk", table, tuple(some), column, cell)
        key = source.choice(keys[table] or [1])
        return (form, table, key) if form == "remove" else (form, table, key, column, cell)

    def transaction(self, source, model):
        """Deeds that mostly go well one after another."""
        now, deeds = model.now.duplicate(), []
        for _ in range(source.randint(0, 7)):
            deed = self.random_deed(source, now, model.book.schema)
            try:
                if deed[0] == "bulk" and (deed[1], deed[3]) not in model.book.bulk and source.random() < 0.9:
                    continue
                now.apply(deed)
            except (OwedError, TypeError):
                if source.random() < 0.9:
                    continue
            deeds.append(deed)
        return deeds

    def test_random_transactions(self):
        source = random.Random(20)
        ends = {}
        for at in range(400):
            book = self.BOOKS[at % len(self.BOOKS)]
            given = random_store(source, book.schema, 4)
            longest = max([0, *(self.trails(found) for found in Model(book, given, 1000).copies.values())])
            # Often all copies can be built, but none that grows.
            most = source.choice([200, longest, longest, max(longest - 1, 0)])
            try:
                model = Model(book, given, most)
            except Fault as fault:
                check_error(self, fault.parts, Desk, book, given, most=most)
                ends["TooLong"] = ends.get("TooLong", 0) + 1
                continue
            one = Desk(book, given, most=most)
            for _ in range(4):
                end = self.check_transaction(source, model, one)
                ends[end] = ends.get(end, 0) + 1
        for end in ("done", "stale", "Refused", "Failed", "TooLong"):
            self.assertGreater(ends.get(end, 0), 10, ends)

    def trails(self, found):
        return sum(len(entry) for entry in found)

    def check_transaction(self, source, model, one):
        deeds = self.transaction(source, model)
        at_once = source.random() < 0.5
        alone = list(owed_by(model.book, model.now, deeds[0])) if self.is_good(model, deeds) else None
        try:
            made, owed, built = model.do(deeds, at_once)
        except Fault as fault:
            with self.assertRaises(OwedError) as caught:
                one.do(*deeds, at_once=at_once)
            check_same(self, told(caught.exception), fault.parts)
            end = fault.parts[0]
        else:
            run = one.do(*deeds, at_once=at_once)
            check_same(self, (list(run.made), list(run.owed), run.built), (made, owed, built))
            if len(deeds) == 1:
                check_same(self, alone, [] if deeds[0][0] == "bulk" else model.ordered(owed))
            end = "stale" if model.stale() else "done"
        check_same(self, one.store().rows(), model.now.rows())
        check_same(self, one.copies(), model.ordered(model.copies))
        check_same(self, [one.content(*copy) for copy in one.copies()], [model.copies[copy] for copy in one.copies()])
        check_same(self, one.stale(), model.stale())
        return end

    def is_good(self, model, deeds):
        """Whether there is one deed, and no error."""
        return len(deeds) == 1 and error_of(model.now.changes, deeds[0]) is None


if __name__ == "__main__":
    unittest.main()
