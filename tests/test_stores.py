import unittest

from owedrebuilds.schemas import Schema
from owedrebuilds.stores import Store
from helpers import check_error, check_same

TEXT = "\n".join([
    "table order",
    "flag paid",
    "link buyer customer refuse",
    "table line",
    "value many",
    "link order order cascade",
    "link twin line clear",
    "table customer",
])
SCHEMA = Schema(TEXT)

ENTRIES = [
    ("line", 7, {"order": 2, "many": -3, "twin": 7}),
    ("customer", 5, {}),
    ("order", 2, {"buyer": 5}),
    ("line", 4, {"order": 2, "twin": 7}),
    ("order", 1, {"paid": True}),
    ("customer", 10 ** 9, {}),
]

ROWS = [
    ("order", 1, {"paid": True, "buyer": None}),
    ("order", 2, {"paid": False, "buyer": 5}),
    ("line", 4, {"many": 0, "order": 2, "twin": 7}),
    ("line", 7, {"many": -3, "order": 2, "twin": 7}),
    ("customer", 5, {}),
    ("customer", 10 ** 9, {}),
]


def customers(*numbers):
    return [("customer", number, {}) for number in numbers]


class Reading(unittest.TestCase):
    def setUp(self):
        self.store = Store(SCHEMA, ENTRIES)

    def test_rows(self):
        check_same(self, self.store.rows(), ROWS)
        check_same(self, Store(SCHEMA, []).rows(), [])

    def test_rows_may_be_a_tuple(self):
        check_same(self, Store(SCHEMA, tuple(ENTRIES)).rows(), ROWS)
        check_same(self, Store(SCHEMA, ()).rows(), [])

    def test_rows_go_by_the_order_of_tables_and_keys(self):
        schema = Schema("table z\ntable m\ntable a")
        entries = [(table, key, {}) for table in "amz" for key in (30, 4, 100, 3)]
        found = [(table, key) for table, key, cells in Store(schema, entries).rows()]
        self.assertEqual(found, [(table, key) for table in "zma" for key in (3, 4, 30, 100)])

    def test_len(self):
        self.assertEqual(len(self.store), 6)
        self.assertEqual(len(Store(SCHEMA, [])), 0)

    def test_schema(self):
        self.assertTrue(self.store.schema == SCHEMA)

    def test_row_keys(self):
        check_same(self, self.store.row_keys("order"), [1, 2])
        check_same(self, self.store.row_keys("line"), [4, 7])
        check_same(self, Store(SCHEMA, customers(9, 30, 2)).row_keys("customer"), [2, 9, 30])
        check_same(self, Store(SCHEMA, []).row_keys("line"), [])
        check_error(self, ("NoTable", "lines"), self.store.row_keys, "lines")

    def test_linked(self):
        check_same(self, self.store.linked("line", "order", 2), [4, 7])
        check_same(self, self.store.linked("line", "order", 1), [])
        check_same(self, self.store.linked("line", "twin", 7), [4, 7])
        check_same(self, self.store.linked("line", "twin", 4), [])
        check_same(self, self.store.linked("order", "buyer", 5), [2])
        check_same(self, self.store.linked("order", "buyer", 10 ** 9), [])
        check_same(self, self.store.linked("order", "buyer", 77), [])

    def test_linked_is_ascending(self):
        entries = [("line", key, {"twin": 50}) for key in (8, 50, 3, 20)]
        check_same(self, Store(SCHEMA, entries).linked("line", "twin", 50), [3, 8, 20, 50])

    def test_errors_of_linked(self):
        linked = self.store.linked
        check_error(self, ("NoTable", "lines"), linked, "lines", "order", 2)
        check_error(self, ("NoTable", "lines"), linked, "lines", "nope", 2)
        check_error(self, ("NoColumn", "line", "nope"), linked, "line", "nope", 2)
        check_error(self, ("NoColumn", "line", "many"), linked, "line", "many", -3)
        check_error(self, ("NoColumn", "order", "paid"), linked, "order", "paid", 99)
        check_error(self, ("NoColumn", "order", "order"), linked, "order", "order", 1)

    def test_cell_of(self):
        check_same(self, self.store.cell_of("order", 1, "paid"), True)
        check_same(self, self.store.cell_of("order", 2, "paid"), False)
        check_same(self, self.store.cell_of("order", 1, "buyer"), None)
        check_same(self, self.store.cell_of("order", 2, "buyer"), 5)
        check_same(self, self.store.cell_of("line", 7, "many"), -3)
        check_same(self, self.store.cell_of("line", 4, "many"), 0)

    def test_errors_of_cell_of(self):
        cell_of = self.store.cell_of
        check_error(self, ("NoTable", "lines"), cell_of, "lines", 99, "nope")
        check_error(self, ("NoRow", "order", 99), cell_of, "order", 99, "nope")
        check_error(self, ("NoRow", "customer", 4), cell_of, "customer", 4, "nope")
        check_error(self, ("NoColumn", "order", "many"), cell_of, "order", 1, "many")
        check_error(self, ("NoColumn", "customer", ""), cell_of, "customer", 5, "")

    def test_parameters_by_name(self):
        store = Store(rows=ENTRIES, schema=SCHEMA)
        self.assertEqual(store.row_keys(table="order"), [1, 2])
        self.assertEqual(store.linked(key=2, link="order", table="line"), [4, 7])
        self.assertEqual(store.cell_of(column="paid", key=1, table="order"), True)

    def test_a_store_is_not_iterated_over(self):
        for store in (self.store, Store(SCHEMA, [])):
            with self.assertRaises(TypeError):
                iter(store)
            with self.assertRaises(TypeError):
                list(store)
            with self.assertRaises(TypeError):
                for _ in store:
                    pass


class Containing(unittest.TestCase):
    def test_rows(self):
        store = Store(SCHEMA, ENTRIES)
        for table, key, cells in ROWS:
            self.assertIs((table, key) in store, True)

    def test_other_values(self):
        store = Store(SCHEMA, ENTRIES)
        for thing in (("order", 3), ("order", True), ("customer", 1), ("nope", 1), ("order", "1"),
                      ["order", 1], ("order", 1, {}), ("order",), (), "order", 1, None, True, [],
                      {}, {"order": 1}, ("order", [1]), (["order"], 1), ({}, {}), (1, "order"),
                      (None, None), ("order", None), ("order", 10 ** 39), ("order", 0),
                      ("order", -1), (("order", 1), 1), ("order", ("order", 1)),
                      (("order", "paid"), 1)):
            self.assertIs(thing in store, False, thing)


class Equal(unittest.TestCase):
    def test_equal_rows(self):
        store = Store(SCHEMA, ENTRIES)
        self.assertTrue(store == Store(Schema(TEXT), tuple(reversed(ENTRIES))))
        self.assertFalse(store != Store(SCHEMA, ROWS))
        self.assertTrue(Store(SCHEMA, []) == Store(SCHEMA, ()))

    def test_left_out_cells_are_empty(self):
        full = Store(SCHEMA, [("order", 1, {"paid": False, "buyer": None})])
        self.assertTrue(Store(SCHEMA, [("order", 1, {})]) == full)

    def test_other_rows(self):
        store = Store(SCHEMA, ENTRIES)
        self.assertFalse(store == Store(SCHEMA, ENTRIES[:-1]))
        self.assertFalse(Store(SCHEMA, ENTRIES[:-1]) == store)
        self.assertTrue(store != Store(SCHEMA, []))
        other = Store(SCHEMA, ENTRIES)
        other.change("line", 4, "many", 1)
        self.assertFalse(store == other)
        other.change("line", 4, "many", 0)
        self.assertTrue(store == other)
        self.assertFalse(Store(SCHEMA, customers(1)) == Store(SCHEMA, customers(2)))

    def test_other_schemas(self):
        one = Schema("table a\ntable b")
        two = Schema("table b\ntable a")
        self.assertFalse(Store(one, []) == Store(two, []))
        self.assertFalse(Store(one, [("a", 1, {})]) == Store(two, [("a", 1, {})]))

    def test_other_things(self):
        store = Store(SCHEMA, ENTRIES)
        for thing in (ROWS, tuple(ROWS), ENTRIES, None, SCHEMA, 6, [], {}, store["order", 1]):
            self.assertFalse(store == thing)
            self.assertTrue(store != thing)
        self.assertFalse(Store(SCHEMA, []) == [])


class TooManyRows(unittest.TestCase):
    def test_forty_rows(self):
        store = Store(SCHEMA, customers(*range(1, 41)))
        self.assertEqual(len(store), 40)
        self.assertEqual(store.row_keys("customer"), list(range(1, 41)))

    def test_forty_one_rows(self):
        check_error(self, ("TooMany", "rows"), Store, SCHEMA, customers(*range(1, 42)))
        check_error(self, ("TooMany", "rows"), Store, SCHEMA, tuple(customers(*range(1, 42))))

    def test_it_comes_before_the_wrong_entries(self):
        check_error(self, ("TooMany", "rows"), Store, SCHEMA, [None] * 41)
        check_error(self, ("TooMany", "rows"), Store, SCHEMA, customers(*[1] * 41))
        check_error(self, ("BadStore", 0), Store, SCHEMA, [None] * 40)
        check_error(self, ("BadStore", 1), Store, SCHEMA, customers(*[1] * 40))


class WrongEntries(unittest.TestCase):
    def check_wrong(self, entry):
        """The entry is wrong at its place, whatever stands around it."""
        around = customers(1, 2)
        check_error(self, ("BadStore", 0), Store, SCHEMA, [entry])
        check_error(self, ("BadStore", 2), Store, SCHEMA, around + [entry])
        check_error(self, ("BadStore", 1), Store, SCHEMA, (around[0], entry, around[1], None))

    def test_no_triples(self):
        for entry in (None, 0, True, "customer", (), [], {}, ("customer",), ("customer", 5),
                      ("customer", 5, {}, {}), ["customer", 5, {}], [("customer", 5, {})],
                      (("customer", 5), {}), {"customer": 5}):
            self.check_wrong(entry)

    def test_wrong_tables(self):
        for table in ("nope", "", "Customer", "paid", None, 5, True, [], ["customer"], {},
                      ("customer",), ("order", "paid")):
            self.check_wrong((table, 5, {}))

    def test_wrong_keys(self):
        for key in (0, -1, 10 ** 9 + 1, 10 ** 39, True, False, None, "5", "", [5], (5,), {}):
            self.check_wrong(("customer", key, {}))

    def test_the_least_and_the_greatest_key(self):
        store = Store(SCHEMA, customers(10 ** 9, 1))
        self.assertEqual(store.row_keys("customer"), [1, 10 ** 9])

    def test_wrong_cells(self):
        for cells in (None, [], (), "", 0, False, [("paid", True)], (("paid", True),), "paid"):
            self.check_wrong(("order", 5, cells))

    def test_wrong_columns(self):
        for column in ("many", "", "Paid", "key", "table", "order", "paid "):
            self.check_wrong(("order", 5, {column: 0}))
            self.check_wrong(("order", 5, {"paid": True, column: None}))
        self.check_wrong(("customer", 5, {"name": 0}))

    def test_wrong_values(self):
        for cell in (None, True, False, "3", "", [], [3], (3,), {}, 10 ** 30, -(10 ** 30), 10 ** 39):
            self.check_wrong(("line", 5, {"many": cell}))

    def test_the_greatest_and_the_least_value(self):
        for cell in (10 ** 30 - 1, 1 - 10 ** 30, 0, 1, -1):
            store = Store(SCHEMA, [("line", 5, {"many": cell})])
            check_same(self, store.cell_of("line", 5, "many"), cell)

    def test_wrong_flags(self):
        for cell in (None, 0, 1, "True", "", [], [True], (True,), {}):
            self.check_wrong(("order", 5, {"paid": cell}))

    def test_wrong_links(self):
        for cell in (False, True, 0, -1, "1", "", [], [1], (1,), {}, ("customer", 1), 77, 10 ** 39):
            self.check_wrong(("order", 5, {"buyer": cell}))

    def test_a_link_leads_to_a_row_of_its_own_table(self):
        entries = [("order", 3, {}), ("customer", 3, {}), ("line", 3, {"order": 3, "twin": 3})]
        self.assertEqual(len(Store(SCHEMA, entries)), 3)
        check_error(self, ("BadStore", 1), Store, SCHEMA, [entries[1], entries[2]])
        check_error(self, ("BadStore", 0), Store, SCHEMA, [("line", 4, {"twin": 3}), entries[0]])

    def test_rows_that_are_there_already(self):
        check_error(self, ("BadStore", 1), Store, SCHEMA, customers(5, 5))
        check_error(self, ("BadStore", 3), Store, SCHEMA, customers(5, 6, 7, 5))
        entries = [("order", 1, {"paid": True}), ("order", 1, {"paid": False})]
        check_error(self, ("BadStore", 1), Store, SCHEMA, entries)
        self.assertEqual(len(Store(SCHEMA, [("order", 5, {}), ("customer", 5, {})])), 2)

    def test_links_to_entries_that_stand_later(self):
        store = Store(SCHEMA, [("line", 2, {"twin": 9}), ("line", 9, {"twin": 2})])
        self.assertEqual(store.linked("line", "twin", 9), [2])
        self.assertEqual(store.linked("line", "twin", 2), [9])

    def test_links_to_the_own_row(self):
        store = Store(SCHEMA, [("line", 2, {"twin": 2})])
        self.assertEqual(store.linked("line", "twin", 2), [2])

    def test_links_to_entries_that_are_wrong_themselves(self):
        first = ("order", 1, {"buyer": 5})
        for cells in (None, [], {"name": 3}, 7, {"buyer": 99}):
            check_error(self, ("BadStore", 1), Store, SCHEMA, [first, ("customer", 5, cells)])
        again = [first, ("customer", 5, {}), ("customer", 5, {})]
        check_error(self, ("BadStore", 2), Store, SCHEMA, again)

    def test_entries_that_do_not_count_for_links(self):
        first = ("order", 1, {"buyer": 5})
        for entry in (["customer", 5, {}], ("customer", 5), ("customer", 5, {}, {}),
                      ("customer", "5", {}), ("customer", 6, {}), (["customer"], 5, {}),
                      ("order", 5, {}), ("customers", 5, {}), None):
            check_error(self, ("BadStore", 0), Store, SCHEMA, [first, entry])
        check_error(self, ("BadStore", 0), Store, SCHEMA, [("order", 2, {"buyer": 1}), ("customer", True, {})])

    def test_the_first_wrong_entry_counts(self):
        entries = customers(1) + [("order", 2, {"buyer": 3}), None, ("customer", 1, {})]
        check_error(self, ("BadStore", 1), Store, SCHEMA, entries)


class Copies(unittest.TestCase):
    def test_what_is_handed_in(self):
        cells = {"paid": True}
        entries = [("order", 1, cells)]
        store = Store(SCHEMA, entries)
        cells["paid"] = False
        cells["nope"] = 3
        entries.append(("order", 2, {}))
        check_same(self, store.rows(), [("order", 1, {"paid": True, "buyer": None})])

    def test_what_is_handed_in_is_not_changed(self):
        cells = {"buyer": 5}
        entries = [("order", 1, cells), ("customer", 5, {})]
        store = Store(SCHEMA, entries)
        store.change("order", 1, "paid", True)
        store.remove("order", 1)
        check_same(self, cells, {"buyer": 5})
        check_same(self, entries, [("order", 1, {"buyer": 5}), ("customer", 5, {})])

    def test_what_is_returned(self):
        store = Store(SCHEMA, ENTRIES)
        rows = store.rows()
        for table, key, cells in rows:
            cells["paid"] = 3
        rows.clear()
        store.row_keys("order").append(9)
        store.linked("line", "order", 2).append(9)
        check_same(self, store.rows(), ROWS)
        check_same(self, store.row_keys("order"), [1, 2])
        check_same(self, store.linked("line", "order", 2), [4, 7])

    def test_duplicate(self):
        store = Store(SCHEMA, ENTRIES)
        twin = store.duplicate()
        self.assertIsInstance(twin, Store)
        self.assertIsNot(twin, store)
        self.assertTrue(twin == store)
        check_same(self, twin.rows(), ROWS)
        self.assertTrue(twin.schema == SCHEMA)

    def test_a_duplicate_and_its_store_change_alone(self):
        store = Store(SCHEMA, ENTRIES)
        twin = store.duplicate()
        twin.change("order", 1, "paid", False)
        twin.remove("line", 7)
        twin.put("order", 30)
        check_same(self, store.rows(), ROWS)
        store.put("customer", 6)
        self.assertNotIn(("customer", 6), twin)
        self.assertNotIn(("line", 7), twin)
        check_same(self, twin.cell_of("order", 1, "paid"), False)

    def test_two_stores_of_one_list(self):
        one = Store(SCHEMA, ENTRIES)
        two = Store(SCHEMA, ENTRIES)
        one.remove("order", 2)
        check_same(self, two.rows(), ROWS)


if __name__ == "__main__":
    unittest.main()
