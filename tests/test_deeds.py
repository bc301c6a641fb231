import unittest

from owedrebuilds.schemas import Schema
from owedrebuilds.stores import Store
from helpers import check_error, check_same, error_of

SCHEMA = Schema("\n".join([
    "table order",
    "flag paid",
    "link buyer customer refuse",
    "table line",
    "value many",
    "link order order cascade",
    "link twin line clear",
    "table customer",
]))

ROWS = [
    ("order", 1, {"paid": True, "buyer": None}),
    ("order", 2, {"paid": False, "buyer": 5}),
    ("line", 4, {"many": 0, "order": 2, "twin": 7}),
    ("line", 7, {"many": -3, "order": 2, "twin": 7}),
    ("customer", 5, {}),
    ("customer", 6, {}),
]

ANY = (None, True, False, 0, 1, -1, 10 ** 39, "", "line", [], [1], (), (1,), {}, {"a": 1}, ({}, []))


def new_store():
    return Store(SCHEMA, ROWS)


class DeedCase(unittest.TestCase):
    def check_done(self, deed, changes, *rows):
        """The deed makes these changes, `changes` makes none, and behind it these rows differ."""
        store = new_store()
        check_same(self, store.changes(deed), changes)
        check_same(self, store.rows(), ROWS)
        check_same(self, store.changes(deed), changes)
        check_same(self, store.apply(deed), changes)
        wanted = {(table, key): cells for table, key, cells in ROWS}
        for table, key, cells in rows:
            wanted[table, key] = cells
        found = {(table, key): cells for table, key, cells in store.rows()}
        check_same(self, found, wanted)

    def check_refused(self, deed, *wanted):
        """Both methods raise this error, and the store is as before."""
        store = new_store()
        check_error(self, wanted, store.changes, deed)
        check_same(self, store.rows(), ROWS)
        check_error(self, wanted, store.apply, deed)
        check_same(self, store.rows(), ROWS)


class NoDeeds(DeedCase):
    def check_no_deed(self, thing):
        self.check_refused(thing, "BadDeed", thing)

    def test_other_values(self):
        for thing in ANY:
            self.check_no_deed(thing)

    def test_lists(self):
        self.check_no_deed(["put", "order", 3, {}])
        self.check_no_deed(["set", "order", 1, "paid", False])
        self.check_no_deed(["remove", "order", 1])
        self.check_no_deed(["bulk", "order", (1,), "paid", False])
        self.check_no_deed([("remove", "order", 1)])
        self.check_no_deed((("remove", "order", 1),))

    def test_other_first_words(self):
        for word in ANY + ("Put", "sets", "delete", "put ", ("put",), ["remove"]):
            self.check_no_deed((word, "order", 3, {}))
            self.check_no_deed((word, "order", 1, "paid", False))
            self.check_no_deed((word, "order", 1))
            self.check_no_deed((word, "order", (1,), "paid", False))

    def test_other_lengths(self):
        for deed in (("put", "order", 3, {}), ("set", "order", 1, "paid", False),
                     ("remove", "order", 1), ("bulk", "order", (1,), "paid", False)):
            self.check_no_deed(deed[:-1])
            self.check_no_deed(deed + (None,))
            self.check_no_deed(deed + deed)
            self.check_no_deed(deed[:2])
            self.check_no_deed(deed[:1])

    def test_one_form_with_the_parts_of_another(self):
        self.check_no_deed(("remove", "order", 1, {}))
        self.check_no_deed(("put", "order", 3))
        self.check_no_deed(("put", "order", 3, "paid", False))
        self.check_no_deed(("set", "order", 1, {"paid": False}))
        self.check_no_deed(("set", "order", (1,), "paid", False))
        self.check_no_deed(("bulk", "order", 1, "paid", False))
        self.check_no_deed(("remove", "order", (1,)))

    def test_tables_that_are_no_strings(self):
        for table in ANY:
            if not isinstance(table, str):
                self.check_no_deed(("put", table, 3, {}))
                self.check_no_deed(("set", table, 1, "paid", False))
                self.check_no_deed(("remove", table, 1))
                self.check_no_deed(("bulk", table, (1,), "paid", False))
        self.check_no_deed(("set", ("order", "paid"), 1, "paid", False))

    def test_keys_that_are_none(self):
        for key in (None, True, False, 0, -1, 10 ** 9 + 1, 10 ** 39, "1", "", [1], (1,), {}, (True,)):
            self.check_no_deed(("put", "order", key, {}))
            self.check_no_deed(("set", "order", key, "paid", False))
            self.check_no_deed(("remove", "order", key))
            self.check_no_deed(("bulk", "order", (key,), "paid", False))
            self.check_no_deed(("bulk", "order", (2, key), "paid", False))

    def test_bulk_keys_are_a_tuple_of_different_keys(self):
        for several in (None, 1, "", "1", [], [1], [1, 2], {}, {"1": 2}, True, (1, 1), (1, 2, 1),
                        (1, True), ((1,),), ([],), ({},), (99, 99)):
            self.check_no_deed(("bulk", "order", several, "paid", False))

    def test_columns_that_are_no_strings(self):
        for column in ANY:
            if not isinstance(column, str):
                self.check_no_deed(("set", "order", 1, column, False))
                self.check_no_deed(("bulk", "order", (1,), column, False))
                self.check_no_deed(("bulk", "order", (), column, False))
        self.check_no_deed(("put", "order", 3, {1: True}))
        self.check_no_deed(("put", "order", 3, {"paid": True, None: True}))

    def test_cells_that_are_no_dict(self):
        for cells in ANY:
            if not isinstance(cells, dict):
                self.check_no_deed(("put", "order", 3, cells))
        self.check_no_deed(("put", "order", 3, [("paid", True)]))
        self.check_no_deed(("put", "order", 3, (("paid", True),)))

    def test_it_comes_before_the_other_errors(self):
        self.check_no_deed(("put", "nope", 0, {}))
        self.check_no_deed(("put", "nope", 1, None))
        self.check_no_deed(("set", "nope", True, "paid", 3))
        self.check_no_deed(("set", "order", 99, 3, 3))
        self.check_no_deed(("remove", "nope", 0))
        self.check_no_deed(("bulk", "nope", (99, 99), "nope", 3))
        self.check_no_deed(("bulk", "order", (99, "1"), "nope", 3))


class NoTables(DeedCase):
    def test_every_form(self):
        for table in ("nope", "", "Order", "paid", "order "):
            self.check_refused(("put", table, 3, {}), "NoTable", table)
            self.check_refused(("put", table, 1, {"nope": 3}), "NoTable", table)
            self.check_refused(("set", table, 99, "nope", []), "NoTable", table)
            self.check_refused(("remove", table, 99), "NoTable", table)
            self.check_refused(("bulk", table, (99,), "nope", []), "NoTable", table)
            self.check_refused(("bulk", table, (), "nope", []), "NoTable", table)


class Puts(DeedCase):
    def test_all_cells(self):
        cells = {"many": 8, "order": 1, "twin": 4}
        self.check_done(("put", "line", 5, cells), [("put", "line", 5, cells)], ("line", 5, cells))

    def test_left_out_cells_are_empty(self):
        for given in ({}, {"many": 0}, {"order": None, "twin": None}):
            cells = {"many": 0, "order": None, "twin": None}
            self.check_done(("put", "line", 5, given), [("put", "line", 5, cells)], ("line", 5, cells))
        cells = {"paid": False, "buyer": 6}
        self.check_done(("put", "order", 4, {"buyer": 6}), [("put", "order", 4, cells)], ("order", 4, cells))
        self.check_done(("put", "customer", 1, {}), [("put", "customer", 1, {})], ("customer", 1, {}))

    def test_the_least_and_the_greatest_key(self):
        for key in (1, 10 ** 9):
            self.check_done(("put", "customer", key, {}), [("put", "customer", key, {})], ("customer", key, {}))

    def test_the_cells_in_any_order(self):
        cells = {"buyer": 6, "paid": True}
        self.check_done(("put", "order", 4, cells), [("put", "order", 4, cells)], ("order", 4, cells))

    def test_taken(self):
        self.check_refused(("put", "order", 1, {}), "Taken", "order", 1)
        self.check_refused(("put", "order", 1, {"nope": 3, "paid": 3}), "Taken", "order", 1)
        self.check_refused(("put", "customer", 5, {}), "Taken", "customer", 5)

    def test_no_column(self):
        self.check_refused(("put", "order", 3, {"nope": 0}), "NoColumn", "order", "nope")
        self.check_refused(("put", "order", 3, {"": 0}), "NoColumn", "order", "")
        self.check_refused(("put", "customer", 3, {"paid": True}), "NoColumn", "customer", "paid")

    def test_bad_cell(self):
        for cell in (None, True, False, "1", [], {}, (1,), 10 ** 30, -(10 ** 30)):
            self.check_refused(("put", "line", 3, {"many": cell}), "BadCell", "line", "many", cell)
        for cell in (None, 0, 1, "", [], {}, (True,)):
            self.check_refused(("put", "order", 3, {"paid": cell}), "BadCell", "order", "paid", cell)
        for cell in (True, False, 0, 1, -5, "5", [5], {}, (5,), ("customer", 5)):
            self.check_refused(("put", "order", 3, {"buyer": cell}), "BadCell", "order", "buyer", cell)

    def test_a_link_cannot_lead_to_the_new_row_itself(self):
        self.check_refused(("put", "line", 3, {"twin": 3}), "BadCell", "line", "twin", 3)
        self.check_refused(("put", "line", 3, {"order": 3}), "BadCell", "line", "order", 3)

    def test_columns_are_asked_ascending_by_name(self):
        self.check_refused(("put", "line", 3, {"twin": 9, "many": None}), "BadCell", "line", "many", None)
        self.check_refused(("put", "line", 3, {"zzz": 9, "twin": True}), "BadCell", "line", "twin", True)
        self.check_refused(("put", "line", 3, {"twin": 9, "abc": 1}), "NoColumn", "line", "abc")
        self.check_refused(("put", "line", 3, {"twin": 9, "order": 9}), "BadCell", "line", "order", 9)
        self.check_refused(("put", "order", 3, {"paid": 3, "buyer": 3}), "BadCell", "order", "buyer", 3)
        self.check_refused(("put", "order", 3, {"zz": 3, "nn": 3, "xx": 1}), "NoColumn", "order", "nn")

    def test_the_fortieth_and_the_forty_first_row(self):
        store = Store(SCHEMA, [("customer", key, {}) for key in range(1, 40)])
        check_same(self, store.put("order", 1), [("put", "order", 1, {"paid": False, "buyer": None})])
        self.assertEqual(len(store), 40)
        before = store.rows()
        for deed in (("put", "order", 2, {}), ("put", "customer", 41, {}), ("put", "order", 2, {"buyer": 3})):
            check_error(self, ("TooMany", "rows"), store.changes, deed)
            check_error(self, ("TooMany", "rows"), store.apply, deed)
        check_same(self, store.rows(), before)
        store.remove("customer", 7)
        store.put("order", 2)
        self.assertEqual(len(store), 40)

    def test_too_many_comes_last(self):
        store = Store(SCHEMA, [("customer", key, {}) for key in range(1, 41)])
        check_error(self, ("NoTable", "nope"), store.apply, ("put", "nope", 1, {}))
        check_error(self, ("Taken", "customer", 1), store.apply, ("put", "customer", 1, {}))
        check_error(self, ("NoColumn", "order", "x"), store.apply, ("put", "order", 1, {"x": 1}))
        check_error(self, ("BadCell", "order", "paid", 1), store.apply, ("put", "order", 1, {"paid": 1}))

    def test_other_deeds_in_a_full_store(self):
        store = Store(SCHEMA, [("order", key, {}) for key in range(1, 41)])
        self.assertEqual(len(store.change("order", 3, "paid", True)), 1)
        self.assertEqual(len(store.apply(("bulk", "order", (1, 2), "paid", True))), 2)
        self.assertEqual(len(store.remove("order", 3)), 1)


class Sets(DeedCase):
    def test_values(self):
        for cell in (1, 17, -1, 10 ** 30 - 1, 1 - 10 ** 30):
            self.check_done(
                ("set", "line", 4, "many", cell), [("set", "line", 4, "many", 0, cell)],
                ("line", 4, {"many": cell, "order": 2, "twin": 7}),
            )

    def test_flags(self):
        self.check_done(
            ("set", "order", 1, "paid", False), [("set", "order", 1, "paid", True, False)],
            ("order", 1, {"paid": False, "buyer": None}),
        )
        self.check_done(
            ("set", "order", 2, "paid", True), [("set", "order", 2, "paid", False, True)],
            ("order", 2, {"paid": True, "buyer": 5}),
        )

    def test_links(self):
        self.check_done(
            ("set", "order", 2, "buyer", 6), [("set", "order", 2, "buyer", 5, 6)],
            ("order", 2, {"paid": False, "buyer": 6}),
        )
        self.check_done(
            ("set", "order", 2, "buyer", None), [("set", "order", 2, "buyer", 5, None)],
            ("order", 2, {"paid": False, "buyer": None}),
        )
        self.check_done(
            ("set", "order", 1, "buyer", 5), [("set", "order", 1, "buyer", None, 5)],
            ("order", 1, {"paid": True, "buyer": 5}),
        )

    def test_a_link_may_lead_to_the_own_row(self):
        self.check_done(
            ("set", "line", 4, "twin", 4), [("set", "line", 4, "twin", 7, 4)],
            ("line", 4, {"many": 0, "order": 2, "twin": 4}),
        )

    def test_a_cell_that_is_there_already_is_no_change(self):
        self.check_done(("set", "line", 7, "many", -3), [])
        self.check_done(("set", "order", 1, "paid", True), [])
        self.check_done(("set", "order", 2, "paid", False), [])
        self.check_done(("set", "order", 1, "buyer", None), [])
        self.check_done(("set", "line", 7, "twin", 7), [])

    def test_no_row(self):
        self.check_refused(("set", "order", 3, "nope", []), "NoRow", "order", 3)
        self.check_refused(("set", "customer", 4, "nope", []), "NoRow", "customer", 4)
        self.check_refused(("set", "order", 10 ** 9, "paid", True), "NoRow", "order", 10 ** 9)

    def test_no_column(self):
        self.check_refused(("set", "order", 1, "nope", []), "NoColumn", "order", "nope")
        self.check_refused(("set", "order", 1, "many", 3), "NoColumn", "order", "many")
        self.check_refused(("set", "order", 1, "key", 3), "NoColumn", "order", "key")
        self.check_refused(("set", "order", 1, "", 3), "NoColumn", "order", "")

    def test_bad_cell(self):
        for cell in (None, True, False, "1", [], {}, (1,), 10 ** 30, -(10 ** 30), 10 ** 39):
            self.check_refused(("set", "line", 4, "many", cell), "BadCell", "line", "many", cell)
        for cell in (None, 0, 1, "", [], {}, (True,)):
            self.check_refused(("set", "order", 1, "paid", cell), "BadCell", "order", "paid", cell)
        for cell in (True, False, 0, 1, -5, 7, "5", [5], {}, (5,), ("customer", 5)):
            self.check_refused(("set", "order", 2, "buyer", cell), "BadCell", "order", "buyer", cell)

    def test_true_is_no_key_and_no_value(self):
        self.check_refused(("set", "line", 4, "order", True), "BadCell", "line", "order", True)
        self.check_refused(("set", "line", 4, "many", False), "BadCell", "line", "many", False)


class Bulks(DeedCase):
    def test_several_rows(self):
        self.check_done(
            ("bulk", "line", (4, 7), "many", 9),
            [("set", "line", 4, "many", 0, 9), ("set", "line", 7, "many", -3, 9)],
            ("line", 4, {"many": 9, "order": 2, "twin": 7}), ("line", 7, {"many": 9, "order": 2, "twin": 7}),
        )

    def test_the_rows_go_as_keys_names_them(self):
        self.check_done(
            ("bulk", "line", (7, 4), "order", 1),
            [("set", "line", 7, "order", 2, 1), ("set", "line", 4, "order", 2, 1)],
            ("line", 4, {"many": 0, "order": 1, "twin": 7}), ("line", 7, {"many": -3, "order": 1, "twin": 7}),
        )

    def test_many_rows_in_any_order(self):
        store = Store(SCHEMA, [("order", key, {"paid": key == 4}) for key in range(1, 9)])
        changes = store.apply(("bulk", "order", (5, 2, 8, 4, 1), "paid", True))
        wanted = [("set", "order", key, "paid", False, True) for key in (5, 2, 8, 1)]
        check_same(self, changes, wanted)
        found = [key for key in store.row_keys("order") if store.cell_of("order", key, "paid")]
        self.assertEqual(found, [1, 2, 4, 5, 8])

    def test_no_keys(self):
        self.check_done(("bulk", "line", (), "many", 9), [])
        self.check_done(("bulk", "order", (), "paid", True), [])
        self.check_done(("bulk", "order", (), "buyer", 5), [])

    def test_rows_that_have_the_cell_already(self):
        self.check_done(
            ("bulk", "order", (1, 2), "paid", True), [("set", "order", 2, "paid", False, True)],
            ("order", 2, {"paid": True, "buyer": 5}),
        )
        self.check_done(("bulk", "line", (7, 4), "order", 2), [])
        self.check_done(
            ("bulk", "line", (7, 4), "many", 0), [("set", "line", 7, "many", -3, 0)],
            ("line", 7, {"many": 0, "order": 2, "twin": 7}),
        )

    def test_links_to_one_of_the_rows(self):
        self.check_done(
            ("bulk", "line", (7, 4), "twin", 4),
            [("set", "line", 7, "twin", 7, 4), ("set", "line", 4, "twin", 7, 4)],
            ("line", 4, {"many": 0, "order": 2, "twin": 4}), ("line", 7, {"many": -3, "order": 2, "twin": 4}),
        )
        self.check_done(
            ("bulk", "line", (7, 4), "twin", None),
            [("set", "line", 7, "twin", 7, None), ("set", "line", 4, "twin", 7, None)],
            ("line", 4, {"many": 0, "order": 2, "twin": None}), ("line", 7, {"many": -3, "order": 2, "twin": None}),
        )

    def test_no_column(self):
        self.check_refused(("bulk", "order", (99,), "nope", []), "NoColumn", "order", "nope")
        self.check_refused(("bulk", "order", (), "nope", []), "NoColumn", "order", "nope")
        self.check_refused(("bulk", "order", (1,), "many", 3), "NoColumn", "order", "many")

    def test_no_row(self):
        self.check_refused(("bulk", "order", (1, 9, 2, 8), "paid", []), "NoRow", "order", 9)
        self.check_refused(("bulk", "order", (8, 9), "paid", True), "NoRow", "order", 8)
        self.check_refused(("bulk", "order", (1, 2, 5), "paid", True), "NoRow", "order", 5)

    def test_bad_cell(self):
        for several in ((), (1,), (1, 2)):
            for cell in (None, 0, 1, "True", [], {}):
                deed = ("bulk", "order", several, "paid", cell)
                self.check_refused(deed, "BadCell", "order", "paid", cell)
            for cell in (True, 0, 1, 77, "5", [5]):
                deed = ("bulk", "order", several, "buyer", cell)
                self.check_refused(deed, "BadCell", "order", "buyer", cell)
        for cell in (True, None, 10 ** 30, "3"):
            self.check_refused(("bulk", "line", (), "many", cell), "BadCell", "line", "many", cell)


class ShortForms(unittest.TestCase):
    def test_put(self):
        store = new_store()
        cells = {"many": 3, "order": 1, "twin": None}
        check_same(self, store.put("line", 5, order=1, many=3), [("put", "line", 5, cells)])
        check_same(self, store["line", 5].cells, cells)
        check_same(self, store.put(key=8, table="customer"), [("put", "customer", 8, {})])
        check_same(self, store.put(paid=True, key=8, table="order")[0][:3], ("put", "order", 8))
        check_same(self, store.cell_of("order", 8, "paid"), True)

    def test_change(self):
        store = new_store()
        check_same(self, store.change("order", 1, "paid", False), [("set", "order", 1, "paid", True, False)])
        check_same(self, store.change("order", 1, "paid", False), [])
        named = store.change(cell=4, column="many", key=4, table="line")
        check_same(self, named, [("set", "line", 4, "many", 0, 4)])
        check_same(self, store.cell_of("line", 4, "many"), 4)

    def test_remove(self):
        store = new_store()
        check_same(self, store.remove("customer", 6), [("remove", "customer", 6, {})])
        gone = ("remove", "line", 4, {"many": 0, "order": 2, "twin": 7})
        check_same(self, store.remove(key=4, table="line"), [gone])
        self.assertEqual(len(store), 4)

    def test_changes_and_apply_by_name(self):
        store = new_store()
        wanted = [("set", "order", 1, "paid", True, False)]
        check_same(self, store.changes(deed=("set", "order", 1, "paid", False)), wanted)
        check_same(self, store.apply(deed=("set", "order", 1, "paid", False)), wanted)
        check_same(self, store.changes(deed=("set", "order", 1, "paid", False)), [])

    def test_errors(self):
        store = new_store()
        check_error(self, ("BadDeed", ("put", "order", 0, {"paid": 1})), store.put, "order", 0, paid=1)
        check_error(self, ("NoTable", "nope"), store.put, "nope", 1)
        check_error(self, ("Taken", "order", 1), store.put, "order", 1, nope=3)
        check_error(self, ("NoColumn", "order", "nope"), store.put, "order", 3, nope=3)
        check_error(self, ("BadCell", "order", "paid", 1), store.put, "order", 3, paid=1)
        check_error(self, ("BadDeed", ("set", "order", -1, "paid", 3)), store.change, "order", -1, "paid", 3)
        check_error(self, ("NoTable", "nope"), store.change, "nope", 1, "paid", 3)
        check_error(self, ("NoRow", "order", 3), store.change, "order", 3, "paid", 3)
        check_error(self, ("NoColumn", "order", "x"), store.change, "order", 1, "x", 3)
        check_error(self, ("BadCell", "order", "paid", [3]), store.change, "order", 1, "paid", [3])
        check_error(self, ("BadDeed", ("remove", "order", 0)), store.remove, "order", 0)
        check_error(self, ("NoTable", "nope"), store.remove, "nope", 1)
        check_error(self, ("NoRow", "order", 3), store.remove, "order", 3)
        check_error(self, ("Held", "order", 2), store.remove, "customer", 5)
        check_same(self, store.rows(), ROWS)


class Copies(unittest.TestCase):
    def test_cells_that_are_handed_in(self):
        store = new_store()
        cells = {"paid": True}
        store.apply(("put", "order", 3, cells))
        check_same(self, cells, {"paid": True})
        cells["paid"] = False
        cells["buyer"] = 77
        check_same(self, store["order", 3].cells, {"paid": True, "buyer": None})

    def test_changes_that_are_returned(self):
        store = new_store()
        for action in (store.changes, store.apply):
            changes = action(("put", "order", 3, {"paid": True}))
            changes[0][3]["paid"] = 7
            changes.clear()
        check_same(self, store["order", 3].cells, {"paid": True, "buyer": None})
        planned = store.changes(("remove", "line", 4))
        planned[0][3]["many"] = 99
        check_same(self, store.cell_of("line", 4, "many"), 0)
        wanted = [("remove", "line", 4, {"many": 0, "order": 2, "twin": 7})]
        check_same(self, store.changes(("remove", "line", 4)), wanted)
        check_same(self, store.apply(("remove", "line", 4)), wanted)

    def test_the_changes_of_a_put_stay_as_they_are(self):
        store = new_store()
        changes = store.put("order", 3, paid=True)
        store.change("order", 3, "paid", False)
        check_same(self, changes, [("put", "order", 3, {"paid": True, "buyer": None})])

    def test_deeds_are_not_changed(self):
        store = new_store()
        deed = ("put", "line", 9, {"order": 1})
        store.changes(deed)
        store.apply(deed)
        check_same(self, deed, ("put", "line", 9, {"order": 1}))
        bad = ["put", {"a": [1]}]
        check_same(self, error_of(store.apply, bad), ("BadDeed", ["put", {"a": [1]}]))
        check_same(self, bad, ["put", {"a": [1]}])

    def test_an_error_keeps_the_deed_as_it_was(self):
        bad = ["put", {"a": [1]}]
        found = error_of(new_store().apply, bad)
        bad[1]["a"].append(2)
        bad.append(3)
        check_same(self, found, ("BadDeed", ["put", {"a": [1]}]))


if __name__ == "__main__":
    unittest.main()
