import unittest

from owedrebuilds.schemas import Schema
from owedrebuilds.stores import Row, Store
from helpers import check_error, check_same

SCHEMA = Schema("\n".join([
    "table order",
    "flag paid",
    "link buyer customer refuse",
    "table line",
    "value many",
    "link order order cascade",
    "link twin line clear",
    "table customer",
]))

ROWS = [
    ("order", 1, {"paid": True, "buyer": None}),
    ("order", 2, {"paid": False, "buyer": 5}),
    ("line", 4, {"many": 8, "order": 2, "twin": 7}),
    ("line", 7, {"many": -3, "order": 2, "twin": 7}),
    ("customer", 5, {}),
]


def setting(row, column, cell):
    """Setting as a call."""
    row[column] = cell


class RowCase(unittest.TestCase):
    def setUp(self):
        self.store = Store(SCHEMA, ROWS)


class Making(RowCase):
    def test_the_two_ways(self):
        for row in (self.store["line", 4], Row(self.store, "line", 4),
                    Row(key=4, table="line", store=self.store)):
            self.assertIsInstance(row, Row)
            check_same(self, (row.table, row.key), ("line", 4))
            check_same(self, row.cells, {"many": 8, "order": 2, "twin": 7})

    def test_errors(self):
        for action in (lambda table, key: self.store[table, key],
                       lambda table, key: Row(self.store, table, key)):
            check_error(self, ("NoTable", "nope"), action, "nope", 4)
            check_error(self, ("NoTable", ""), action, "", 99)
            check_error(self, ("NoRow", "line", 5), action, "line", 5)
            check_error(self, ("NoRow", "order", 4), action, "order", 4)
            check_error(self, ("NoRow", "order", 0), action, "order", 0)
            check_error(self, ("NoRow", "order", -1), action, "order", -1)

    def test_the_store_is_not_copied(self):
        row = self.store["order", 1]
        self.store.change("order", 1, "paid", False)
        check_same(self, row["paid"], False)
        row["paid"] = True
        check_same(self, self.store.cell_of("order", 1, "paid"), True)


class Reading(RowCase):
    def test_each_kind(self):
        check_same(self, self.store["order", 1]["paid"], True)
        check_same(self, self.store["order", 2]["paid"], False)
        check_same(self, self.store["order", 2]["buyer"], 5)
        check_same(self, self.store["order", 1]["buyer"], None)
        check_same(self, self.store["line", 7]["many"], -3)

    def test_cells_as_they_are_now(self):
        row = self.store["line", 4]
        self.store.apply(("bulk", "line", (4, 7), "many", 10))
        check_same(self, row["many"], 10)
        check_same(self, row.cells, {"many": 10, "order": 2, "twin": 7})
        self.store.remove("line", 7)
        check_same(self, row["twin"], None)
        check_same(self, row.cells, {"many": 10, "order": 2, "twin": None})

    def test_cells(self):
        check_same(self, self.store["order", 1].cells, {"paid": True, "buyer": None})
        check_same(self, self.store["customer", 5].cells, {})

    def test_cells_is_a_new_dict(self):
        row = self.store["order", 1]
        cells = row.cells
        cells["paid"] = False
        cells["nope"] = 3
        check_same(self, row.cells, {"paid": True, "buyer": None})
        check_same(self, self.store.rows(), Store(SCHEMA, ROWS).rows())

    def test_cells_is_not_set(self):
        with self.assertRaises(AttributeError):
            self.store["order", 1].cells = {}

    def test_no_column(self):
        row = self.store["order", 1]
        for column in ("many", "", "order", "key", "table", "Paid"):
            check_error(self, ("NoColumn", "order", column), lambda: row[column])

    def test_a_row_is_not_iterated_over(self):
        for place in (("order", 1), ("customer", 5)):
            row = self.store[place]
            with self.assertRaises(TypeError):
                iter(row)
            with self.assertRaises(TypeError):
                list(row)
            with self.assertRaises(TypeError):
                for _ in row:
                    pass


class Setting(RowCase):
    def test_each_kind(self):
        line = self.store["line", 4]
        line["many"] = 10 ** 30 - 1
        line["order"] = 1
        line["twin"] = None
        check_same(self, line.cells, {"many": 10 ** 30 - 1, "order": 1, "twin": None})
        order = self.store["order", 2]
        order["paid"] = True
        order["buyer"] = None
        check_same(self, order.cells, {"paid": True, "buyer": None})
        check_same(self, self.store.rows(), [
            ("order", 1, {"paid": True, "buyer": None}),
            ("order", 2, {"paid": True, "buyer": None}),
            ("line", 4, {"many": 10 ** 30 - 1, "order": 1, "twin": None}),
            ("line", 7, {"many": -3, "order": 2, "twin": 7}),
            ("customer", 5, {}),
        ])

    def test_the_cell_that_is_there(self):
        line = self.store["line", 7]
        line["twin"] = 7
        line["many"] = -3
        check_same(self, line.cells, {"many": -3, "order": 2, "twin": 7})

    def test_errors(self):
        row = self.store["order", 2]
        check_error(self, ("NoColumn", "order", "many"), setting, row, "many", 3)
        check_error(self, ("NoColumn", "order", "nope"), setting, row, "nope", [])
        check_error(self, ("BadCell", "order", "paid", 1), setting, row, "paid", 1)
        check_error(self, ("BadCell", "order", "paid", None), setting, row, "paid", None)
        check_error(self, ("BadCell", "order", "buyer", 6), setting, row, "buyer", 6)
        check_error(self, ("BadCell", "order", "buyer", [5]), setting, row, "buyer", [5])
        check_error(self, ("BadCell", "line", "many", True), setting, self.store["line", 4], "many", True)
        check_same(self, self.store.rows(), Store(SCHEMA, ROWS).rows())


class Stepping(RowCase):
    def test_step(self):
        line = self.store["line", 4]
        self.assertIsInstance(line.step("order"), Row)
        check_same(self, (line.step("order").table, line.step("order").key), ("order", 2))
        check_same(self, (line.step("twin").table, line.step("twin").key), ("line", 7))
        check_same(self, line.step("order").step("buyer").key, 5)
        check_same(self, line.step(link="twin").step(link="twin").key, 7)

    def test_step_goes_to_the_row_itself(self):
        line = self.store["line", 4]
        line.step("order")["paid"] = True
        check_same(self, self.store.cell_of("order", 2, "paid"), True)
        line["order"] = 1
        self.assertEqual(line.step("order").key, 1)

    def test_links_that_are_not_set(self):
        self.assertIsNone(self.store["order", 1].step("buyer"))

    def test_no_column(self):
        line = self.store["line", 4]
        check_error(self, ("NoColumn", "line", "nope"), line.step, "nope")
        check_error(self, ("NoColumn", "line", "many"), line.step, "many")
        check_error(self, ("NoColumn", "line", "paid"), line.step, "paid")
        check_error(self, ("NoColumn", "order", "paid"), self.store["order", 1].step, "paid")
        check_error(self, ("NoColumn", "order", "paid"), self.store["order", 2].step, "paid")


class Removed(RowCase):
    def check_gone(self, row):
        wanted = ("NoRow", row.table, row.key)
        check_error(self, wanted, lambda: row.cells)
        check_error(self, wanted, lambda: row["many"])
        check_error(self, wanted, lambda: row["nope"])
        check_error(self, wanted, setting, row, "many", 3)
        check_error(self, wanted, setting, row, "nope", [])
        check_error(self, wanted, row.step, "twin")
        check_error(self, wanted, row.step, "many")
        check_error(self, wanted, row.step, "nope")

    def test_behind_a_removal(self):
        row = self.store["line", 7]
        self.store.remove("line", 7)
        self.check_gone(row)
        check_same(self, (row.table, row.key), ("line", 7))
        check_error(self, ("NoRow", "line", 7), lambda: self.store["line", 7])

    def test_behind_a_cascade(self):
        row = self.store["line", 4]
        self.store.remove("order", 2)
        self.check_gone(row)

    def test_behind_a_new_put_of_the_same_row(self):
        row = self.store["line", 7]
        self.store.remove("line", 7)
        self.store.put("line", 7, many=12, order=1)
        check_same(self, row.cells, {"many": 12, "order": 1, "twin": None})
        check_same(self, row["many"], 12)
        self.assertIsNone(row.step("twin"))
        check_same(self, row.step("order").key, 1)
        row["twin"] = 4
        check_same(self, self.store.cell_of("line", 7, "twin"), 4)
        self.assertTrue(row == self.store["line", 7])


class Equal(RowCase):
    def test_the_same_row(self):
        self.assertTrue(self.store["line", 4] == self.store["line", 4])
        self.assertFalse(self.store["line", 4] != Row(self.store, "line", 4))

    def test_rows_of_another_store(self):
        other = Store(Schema("table line\nflag new"), [("line", 4, {"new": True})])
        self.assertTrue(self.store["line", 4] == other["line", 4])
        self.assertTrue(other["line", 4] == self.store["line", 4])

    def test_a_removed_row(self):
        row = self.store["line", 4]
        twin = self.store.duplicate()
        self.store.remove("line", 4)
        self.assertTrue(row == twin["line", 4])

    def test_other_rows(self):
        self.store.put("line", 1)
        self.store.put("line", 2)
        self.assertFalse(self.store["line", 4] == self.store["line", 7])
        self.assertTrue(self.store["line", 1] != self.store["order", 1])
        self.assertFalse(self.store["order", 2] == self.store["line", 2])

    def test_other_things(self):
        row = self.store["line", 4]
        for thing in (("line", 4), ["line", 4], ("line", 4, row.cells), row.cells, None, 4, "line",
                      self.store, SCHEMA):
            self.assertFalse(row == thing)
            self.assertTrue(row != thing)


if __name__ == "__main__":
    unittest.main()
