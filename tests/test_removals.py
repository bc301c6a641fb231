import unittest
from itertools import product

from owedrebuilds.schemas import Schema
from owedrebuilds.stores import Store
from helpers import check_error, check_same


def orders(rule):
    """The schema of the example in point 9."""
    return Schema("table order\ntable line\nlink order order " + rule)


def check_removal(case, schema, rows, place, wanted):
    """The removal makes these changes; `changes` tells the same and does nothing."""
    store = Store(schema, rows)
    before = store.rows()
    check_same(case, store.changes(("remove",) + place), wanted)
    check_same(case, store.rows(), before)
    check_same(case, store.apply(("remove",) + place), wanted)
    check_same(case, store.rows(), behind(before, wanted))


def check_held(case, schema, rows, place, held):
    """The removal is an error, and the store is as before."""
    store = Store(schema, rows)
    before = store.rows()
    for action in (store.changes, store.apply):
        check_error(case, ("Held",) + held, action, ("remove",) + place)
        check_same(case, store.rows(), before)
    check_error(case, ("Held",) + held, store.remove, *place)
    check_same(case, store.rows(), before)


def behind(rows, changes):
    """The rows behind some changes, each of which must be possible where it stands."""
    cells = {(table, key): dict(row) for table, key, row in rows}
    for change in changes:
        place = (change[1], change[2])
        if change[0] == "set":
            assert cells[place][change[3]] == change[4] != change[5]
            cells[place][change[3]] = change[5]
        else:
            assert change[0] == "remove" and cells[place] == change[3]
            del cells[place]
    return [(table, key, cells[table, key]) for table, key, row in rows if (table, key) in cells]


class Example(unittest.TestCase):
    rows = [("order", 1, {}), ("line", 7, {"order": 1}), ("line", 4, {"order": 1})]

    def test_cascade(self):
        check_removal(self, orders("cascade"), self.rows, ("order", 1), [
            ("remove", "line", 7, {"order": 1}),
            ("remove", "line", 4, {"order": 1}),
            ("remove", "order", 1, {}),
        ])

    def test_clear(self):
        check_removal(self, orders("clear"), self.rows, ("order", 1), [
            ("set", "line", 4, "order", 1, None),
            ("set", "line", 7, "order", 1, None),
            ("remove", "order", 1, {}),
        ])

    def test_refuse(self):
        check_held(self, orders("refuse"), self.rows, ("order", 1), ("line", 4))

    def test_rows_to_which_nothing_leads(self):
        for rule in ("refuse", "clear", "cascade"):
            wanted = [("remove", "line", 7, {"order": 1})]
            check_removal(self, orders(rule), self.rows, ("line", 7), wanted)

    def test_other_orders_do_not_matter(self):
        for rule in ("refuse", "clear", "cascade"):
            rows = self.rows + [("order", 4, {})]
            check_removal(self, orders(rule), rows, ("order", 4), [("remove", "order", 4, {})])


class Errors(unittest.TestCase):
    def test_no_row(self):
        store = Store(orders("refuse"), Example.rows)
        for action in (store.changes, store.apply):
            check_error(self, ("NoRow", "order", 2), action, ("remove", "order", 2))
            check_error(self, ("NoRow", "line", 1), action, ("remove", "line", 1))
            check_error(self, ("NoTable", "orders"), action, ("remove", "orders", 1))
        self.assertEqual(len(store), 3)

    def test_a_row_is_removed_once(self):
        store = Store(orders("clear"), Example.rows)
        store.remove("order", 1)
        check_error(self, ("NoRow", "order", 1), store.remove, "order", 1)
        store.put("order", 1)
        check_same(self, store.linked("line", "order", 1), [])

    def test_after_a_refusing_row_is_gone(self):
        store = Store(orders("refuse"), Example.rows)
        check_error(self, ("Held", "line", 4), store.remove, "order", 1)
        store.remove("line", 4)
        check_error(self, ("Held", "line", 7), store.remove, "order", 1)
        store.change("line", 7, "order", None)
        check_same(self, store.remove("order", 1), [("remove", "order", 1, {})])


class SeveralTables(unittest.TestCase):
    schema = Schema("\n".join([
        "table note",
        "link line line clear",
        "link order order cascade",
        "table shop",
        "table order",
        "link shop shop cascade",
        "value sum",
        "table line",
        "link order order cascade",
        "link gift order clear",
        "flag done",
        "table lock",
        "link line line refuse",
    ]))

    rows = [
        ("shop", 1, {}),
        ("shop", 2, {}),
        ("order", 20, {"shop": 1, "sum": 1}),
        ("order", 10, {"shop": 1, "sum": 10}),
        ("order", 30, {"shop": 2, "sum": 2}),
        ("line", 5, {"order": 20, "gift": 10, "done": True}),
        ("line", 6, {"order": 10, "gift": 10}),
        ("line", 7, {"order": 30, "gift": 10}),
        ("note", 9, {"line": 6, "order": 30}),
        ("note", 8, {"line": 5, "order": 20}),
    ]

    def test_rows_are_found_breadth_first_and_removed_backwards(self):
        # Found: shop 1, orders 10 and 20, line 6, note 8, line 5.
        check_removal(self, self.schema, self.rows, ("shop", 1), [
            ("set", "note", 8, "line", 5, None),
            ("remove", "line", 5, {"order": 20, "gift": 10, "done": True}),
            ("remove", "note", 8, {"line": None, "order": 20}),
            ("set", "note", 9, "line", 6, None),
            ("remove", "line", 6, {"order": 10, "gift": 10, "done": False}),
            ("remove", "order", 20, {"shop": 1, "sum": 1}),
            ("set", "line", 7, "gift", 10, None),
            ("remove", "order", 10, {"shop": 1, "sum": 10}),
            ("remove", "shop", 1, {}),
        ])

    def test_a_row_in_the_middle(self):
        check_removal(self, self.schema, self.rows, ("order", 10), [
            ("set", "note", 9, "line", 6, None),
            ("remove", "line", 6, {"order": 10, "gift": 10, "done": False}),
            ("set", "line", 5, "gift", 10, None),
            ("set", "line", 7, "gift", 10, None),
            ("remove", "order", 10, {"shop": 1, "sum": 10}),
        ])

    def test_a_refusing_row_behind_cascades(self):
        rows = self.rows + [("lock", 3, {"line": 5}), ("lock", 2, {"line": 6}), ("lock", 1, {"line": 7})]
        check_held(self, self.schema, rows, ("shop", 1), ("lock", 2))
        check_held(self, self.schema, rows, ("order", 20), ("lock", 3))
        check_held(self, self.schema, rows, ("line", 7), ("lock", 1))
        check_held(self, self.schema, rows, ("shop", 2), ("lock", 1))
        check_removal(self, self.schema, rows, ("lock", 3), [("remove", "lock", 3, {"line": 5})])

    def test_the_first_refusing_row_by_tables_and_keys(self):
        schema = Schema("\n".join([
            "table z", "link m m refuse", "table m", "link m m refuse", "table a", "link m m refuse",
        ]))
        rows = [(table, key, {"m": 5}) for table in "amz" for key in (9, 7, 30)] + [("m", 5, {})]
        check_held(self, schema, rows, ("m", 5), ("z", 7))
        check_held(self, schema, rows[:6] + rows[9:], ("m", 5), ("m", 7))
        check_held(self, schema, rows[:3] + rows[9:], ("m", 5), ("a", 7))


class OwnTable(unittest.TestCase):
    schema = Schema("\n".join([
        "table cat", "link down cat cascade", "link side cat clear", "link hold cat refuse", "value n",
    ]))

    def cells(self, down=None, side=None, hold=None, number=0):
        return {"down": down, "side": side, "hold": hold, "n": number}

    def test_links_to_the_own_row(self):
        for column in ("down", "side", "hold"):
            rows = [("cat", 3, {column: 3, "n": 4})]
            check_removal(self, self.schema, rows, ("cat", 3), [
                ("set", "cat", 3, column, 3, None),
                ("remove", "cat", 3, self.cells(number=4)),
            ])

    def test_all_links_to_the_own_row(self):
        rows = [("cat", 3, {"down": 3, "side": 3, "hold": 3})]
        check_removal(self, self.schema, rows, ("cat", 3), [
            ("set", "cat", 3, "down", 3, None),
            ("set", "cat", 3, "side", 3, None),
            ("set", "cat", 3, "hold", 3, None),
            ("remove", "cat", 3, self.cells()),
        ])

    def test_links_are_cleared_by_rows_and_then_by_cells(self):
        rows = [
            ("cat", 9, {"side": 5}),
            ("cat", 5, {"side": 5, "down": 5}),
            ("cat", 2, {"side": 5}),
            ("cat", 30, {"side": 5, "n": 5}),
        ]
        check_removal(self, self.schema, rows, ("cat", 5), [
            ("set", "cat", 2, "side", 5, None),
            ("set", "cat", 5, "down", 5, None),
            ("set", "cat", 5, "side", 5, None),
            ("set", "cat", 9, "side", 5, None),
            ("set", "cat", 30, "side", 5, None),
            ("remove", "cat", 5, self.cells()),
        ])

    def test_a_chain(self):
        rows = [("cat", 1, {}), ("cat", 2, {"down": 1}), ("cat", 3, {"down": 2}), ("cat", 4, {"down": 3})]
        check_removal(self, self.schema, rows, ("cat", 2), [
            ("remove", "cat", 4, self.cells(down=3)),
            ("remove", "cat", 3, self.cells(down=2)),
            ("remove", "cat", 2, self.cells(down=1)),
        ])

    def test_a_ring(self):
        rows = [("cat", 1, {"down": 3}), ("cat", 2, {"down": 1}), ("cat", 3, {"down": 2})]
        check_removal(self, self.schema, rows, ("cat", 1), [
            ("set", "cat", 1, "down", 3, None),
            ("remove", "cat", 3, self.cells(down=2)),
            ("remove", "cat", 2, self.cells(down=1)),
            ("remove", "cat", 1, self.cells()),
        ])

    def test_a_ring_of_links_that_are_cleared(self):
        rows = [("cat", 1, {"side": 2}), ("cat", 2, {"side": 1})]
        check_removal(self, self.schema, rows, ("cat", 2), [
            ("set", "cat", 1, "side", 2, None),
            ("remove", "cat", 2, self.cells(side=1)),
        ])

    def test_a_ring_of_links_that_refuse(self):
        rows = [("cat", 1, {"hold": 2}), ("cat", 2, {"hold": 1})]
        check_held(self, self.schema, rows, ("cat", 2), ("cat", 1))
        check_held(self, self.schema, rows, ("cat", 1), ("cat", 2))

    def test_a_found_row_does_not_refuse(self):
        rows = [("cat", 1, {}), ("cat", 2, {"down": 1, "hold": 1})]
        check_removal(self, self.schema, rows, ("cat", 1), [
            ("remove", "cat", 2, self.cells(down=1, hold=1)),
            ("remove", "cat", 1, self.cells()),
        ])

    def test_a_found_row_that_refuses_the_removal_of_a_later_one(self):
        # Found: 1, 2, 3. Row 3 goes first, and the link of row 2 to it is cleared.
        rows = [("cat", 1, {}), ("cat", 2, {"down": 1, "hold": 3}), ("cat", 3, {"down": 1})]
        check_removal(self, self.schema, rows, ("cat", 1), [
            ("set", "cat", 2, "hold", 3, None),
            ("remove", "cat", 3, self.cells(down=1)),
            ("remove", "cat", 2, self.cells(down=1)),
            ("remove", "cat", 1, self.cells()),
        ])

    def test_a_row_that_stays_refuses_a_found_one(self):
        rows = [("cat", 1, {}), ("cat", 2, {"down": 1}), ("cat", 3, {"hold": 2})]
        check_held(self, self.schema, rows, ("cat", 1), ("cat", 3))

    def test_refusing_links_between_rows_that_stay(self):
        rows = [("cat", 1, {}), ("cat", 2, {"hold": 3}), ("cat", 3, {})]
        check_removal(self, self.schema, rows, ("cat", 1), [("remove", "cat", 1, self.cells())])

    def test_links_of_the_removed_row_do_not_matter(self):
        rows = [("cat", 1, {"down": 2, "side": 2, "hold": 2}), ("cat", 2, {})]
        check_removal(self, self.schema, rows, ("cat", 1), [
            ("remove", "cat", 1, self.cells(down=2, side=2, hold=2)),
        ])

    def test_a_row_is_found_once(self):
        schema = Schema("table cat\nlink up cat cascade\nlink down cat cascade")
        rows = [("cat", 1, {}), ("cat", 2, {"up": 1, "down": 1}), ("cat", 3, {"up": 1, "down": 2})]
        check_removal(self, schema, rows, ("cat", 1), [
            ("remove", "cat", 3, {"up": 1, "down": 2}),
            ("remove", "cat", 2, {"up": 1, "down": 1}),
            ("remove", "cat", 1, {"up": None, "down": None}),
        ])

    def test_a_deep_chain(self):
        rows = [("cat", 1, {})] + [("cat", key, {"down": key - 1}) for key in range(2, 41)]
        store = Store(self.schema, rows)
        found = [change[2] for change in store.remove("cat", 1)]
        self.assertEqual(found, list(range(40, 0, -1)))
        self.assertEqual(len(store), 0)


def found_rows(cells, rules, first):
    """The found rows, by going through the words of point 9 again and again."""
    found = [first]
    while True:
        more = list(found)
        for place in found:
            for owner in sorted(cells):
                if owner not in more and any(
                    cells[owner][link] == place and rules[owner[0], link] == "cascade"
                    for link in cells[owner]
                ):
                    more.append(owner)
        if more == found:
            return found
        found = more


def plain_removal(cells, rules, first):
    """The changes of a removal, or the row that refuses it; cells are lead by (table, key)."""
    found = found_rows(cells, rules, first)
    for owner in sorted(cells):
        for link, place in cells[owner].items():
            if owner not in found and place in found and rules[owner[0], link] == "refuse":
                return owner
    out = []
    for place in found[::-1]:
        for owner in sorted(cells):
            for link in sorted(cells[owner]):
                if cells[owner][link] == place:
                    out.append(("set",) + owner + (link, place[1], None))
                    cells[owner][link] = None
        row = cells.pop(place)
        out.append(("remove",) + place + ({link: row[link] and row[link][1] for link in row},))
    return out


class EverySmallStore(unittest.TestCase):
    """All stores of three rows, under all rules, against the words of point 9."""

    places = [("a", 1), ("a", 2), ("b", 1)]

    def stores(self):
        near = [None, ("a", 1), ("a", 2)]
        far = [None, ("b", 1)]
        for one, two, up, down, back in product(near, near, far, far, near):
            yield {
                ("a", 1): {"l": one, "m": up},
                ("a", 2): {"l": two, "m": down},
                ("b", 1): {"n": back},
            }

    def test_all(self):
        kinds = ("refuse", "clear", "cascade")
        for one, two, three in product(kinds, kinds, kinds):
            rules = {("a", "l"): one, ("a", "m"): two, ("b", "n"): three}
            schema = Schema("table a\nlink l a " + one + "\nlink m b " + two + "\ntable b\nlink n a " + three)
            for cells in self.stores():
                self.check_store(schema, rules, cells)

    def check_store(self, schema, rules, cells):
        rows = [
            place + ({link: lead and lead[1] for link, lead in cells[place].items()},)
            for place in self.places
        ]
        for first in self.places:
            left = {place: dict(cells[place]) for place in cells}
            wanted = plain_removal(left, rules, first)
            if isinstance(wanted, tuple):
                check_held(self, schema, rows, first, wanted)
            else:
                check_removal(self, schema, rows, first, wanted)


if __name__ == "__main__":
    unittest.main()
