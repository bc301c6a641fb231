import random
import unittest

from owedrebuilds.schemas import Schema
from owedrebuilds.stores import Store
from owedrebuilds.ways import Way
from helpers import all_trails, check_same, random_store, random_way

SHOP = Schema("\n".join([
    "table line",
    "link order order cascade",
    "flag ready",
    "flag public",
    "table order",
    "link customer customer clear",
    "flag paid",
    "table customer",
]))
RING = Schema("table cat\nlink parent cat clear\nflag shown")
MIXED = Schema("\n".join([
    "table a", "link up b clear", "link twin a clear", "flag f", "flag g",
    "table b", "link peer b clear", "link down a clear", "flag h",
    "table c", "link up b clear",
]))


def shop():
    return Store(SHOP, [
        ("customer", 5, {}),
        ("customer", 6, {}),
        ("order", 1, {"customer": 5, "paid": True}),
        ("order", 2, {"customer": 5}),
        ("order", 3, {}),
        ("line", 10, {"order": 2, "ready": True, "public": True}),
        ("line", 11, {"order": 1, "ready": True}),
        ("line", 9, {"order": 1, "ready": True, "public": True}),
        ("line", 12, {}),
        ("line", 13, {"order": 3, "public": True}),
    ])


def ring():
    """Row 1 is its own parent, 2 and 3 are each other's; 4 and 5 are children of 1, 6 has none."""
    links = {1: 1, 2: 3, 3: 2, 4: 1, 5: 1, 6: None}
    return Store(RING, [("cat", key, {"parent": links[key], "shown": key < 5}) for key in links])


class Joins(unittest.TestCase):
    def joins(self, store, text, key, wanted):
        way = Way(store.schema, text)
        check_same(self, way(store, key), wanted)
        check_same(self, way(store=store, key=key), wanted)
        found = sorted(set(trail[-1] for trail in all_trails(way, store) if trail[0] == key))
        self.assertEqual(found, wanted)

    def test_no_step(self):
        self.joins(shop(), "order", 1, [1])
        self.joins(shop(), "order[paid]", 1, [1])
        self.joins(shop(), "order[paid]", 2, [])
        self.joins(shop(), "order", 4, [])

    def test_one_step(self):
        self.joins(shop(), "line order", 10, [2])
        self.joins(shop(), "line order", 12, [])
        self.joins(shop(), "order ~line.order", 1, [9, 11])
        self.joins(shop(), "order ~line.order", 3, [13])
        self.joins(shop(), "customer ~order.customer", 6, [])

    def test_several_steps(self):
        self.joins(shop(), "line order customer", 9, [5])
        self.joins(shop(), "line order customer", 13, [])
        self.joins(shop(), "customer ~order.customer ~line.order", 5, [9, 10, 11])
        self.joins(shop(), "line order ~line.order", 11, [9, 11])
        self.joins(shop(), "line order customer ~order.customer ~line.order", 10, [9, 10, 11])

    def test_asked_flags(self):
        text = "customer ~order.customer{} ~line.order{}"
        for one, other, wanted in (
            ("[paid]", "", [9, 11]),
            ("", "[ready]", [9, 10, 11]),
            ("", "[public]", [9, 10]),
            ("[paid]", "[public]", [9]),
            ("[paid]", "[public,ready]", [9]),
        ):
            self.joins(shop(), text.format(one, other), 5, wanted)
        self.joins(shop(), "line[ready] order customer", 13, [])
        self.joins(shop(), "line order[paid] customer", 10, [])
        self.joins(shop(), "line order[paid] customer", 11, [5])

    def test_flags_of_the_first_row(self):
        self.joins(shop(), "line[ready] order", 13, [])
        self.joins(shop(), "line[public] order", 13, [3])
        self.joins(shop(), "line[public,ready] order", 13, [])

    def test_a_link_to_the_own_row(self):
        self.joins(ring(), "cat parent", 1, [1])
        self.joins(ring(), "cat" + " parent" * 12, 1, [1])
        self.joins(ring(), "cat ~cat.parent", 1, [1, 4, 5])
        self.joins(ring(), "cat ~cat.parent ~cat.parent", 1, [1, 4, 5])
        self.joins(ring(), "cat parent ~cat.parent", 4, [1, 4, 5])

    def test_rings(self):
        self.joins(ring(), "cat parent", 2, [3])
        self.joins(ring(), "cat parent parent", 2, [2])
        self.joins(ring(), "cat" + " parent" * 11, 2, [3])
        self.joins(ring(), "cat" + " ~cat.parent" * 12, 2, [2])
        self.joins(ring(), "cat parent", 6, [])
        self.joins(ring(), "cat ~cat.parent", 6, [])

    def test_flags_in_rings(self):
        self.joins(ring(), "cat ~cat.parent[shown]", 1, [1, 4])
        self.joins(ring(), "cat parent[shown] ~cat.parent", 5, [1, 4, 5])
        self.joins(ring(), "cat[shown] parent[shown] ~cat.parent[shown]", 5, [])
        store = ring()
        store.change("cat", 3, "shown", False)
        self.joins(store, "cat parent parent[shown]", 2, [2])
        self.joins(store, "cat parent[shown] parent", 2, [])

    def test_rows_that_are_not_there(self):
        for key in (0, -1, 8, 10 ** 9, 10 ** 12):
            for text in ("order", "order customer", "order ~line.order"):
                check_same(self, Way(SHOP, text)(shop(), key), [])
        # The table counts, not the key alone.
        check_same(self, Way(SHOP, "order customer")(shop(), 10), [])

    def test_behind_deeds(self):
        store = shop()
        lines = Way(SHOP, "customer ~order.customer[paid] ~line.order")
        check_same(self, lines(store, 5), [9, 11])
        store.change("order", 2, "paid", True)
        check_same(self, lines(store, 5), [9, 10, 11])
        store.change("line", 9, "order", 3)
        check_same(self, lines(store, 5), [10, 11])
        store.put("line", 4, order=2)
        check_same(self, lines(store, 5), [4, 10, 11])
        store.remove("order", 2)
        check_same(self, lines(store, 5), [11])
        store.remove("customer", 5)
        check_same(self, lines(store, 5), [])

    def test_the_same_ends_by_several_trails_stand_once(self):
        self.joins(shop(), "customer ~order.customer customer", 5, [5])

    def test_an_equal_schema_is_enough(self):
        twin = Schema(str(SHOP))
        check_same(self, Way(twin, "line order")(shop(), 10), [2])

    def test_what_is_returned_is_new(self):
        store = shop()
        way = Way(SHOP, "order ~line.order")
        way(store, 1).append(8)
        check_same(self, way(store, 1), [9, 11])


class Trails(unittest.TestCase):
    def trails(self, store, text, key, wanted):
        way = Way(store.schema, text)
        check_same(self, list(way.trails(store, key)), wanted)
        check_same(self, list(way.trails(store=store, key=key)), wanted)
        self.assertEqual([trail for trail in all_trails(way, store) if trail[0] == key], wanted)

    def test_no_step(self):
        self.trails(shop(), "order", 1, [(1,)])
        self.trails(shop(), "order[paid]", 1, [(1,)])
        self.trails(shop(), "order[paid]", 2, [])
        self.trails(shop(), "order", 7, [])

    def test_steps(self):
        self.trails(shop(), "line order customer", 9, [(9, 1, 5)])
        self.trails(shop(), "line order customer", 13, [])
        self.trails(shop(), "customer ~order.customer ~line.order", 5, [(5, 1, 9), (5, 1, 11), (5, 2, 10)])
        self.trails(shop(), "customer ~order.customer customer", 5, [(5, 1, 5), (5, 2, 5)])
        self.trails(shop(), "customer ~order.customer ~line.order", 8, [])

    def test_flags(self):
        text = "customer ~order.customer[paid] ~line.order"
        self.trails(shop(), text, 5, [(5, 1, 9), (5, 1, 11)])
        self.trails(shop(), "customer ~order.customer ~line.order[public]", 5, [(5, 1, 9), (5, 2, 10)])
        self.trails(shop(), "line[public] order", 11, [])

    def test_ascending_as_tuples(self):
        store = Store(RING, [("cat", key, {"parent": 100}) for key in (100, 20, 3)])
        self.trails(store, "cat ~cat.parent parent ~cat.parent", 100, [
            (100, one, 100, other) for one in (3, 20, 100) for other in (3, 20, 100)
        ])

    def test_rings(self):
        self.trails(ring(), "cat" + " parent" * 12, 2, [(2, 3) * 6 + (2,)])
        self.trails(ring(), "cat" + " parent" * 12, 1, [(1,) * 13])
        self.trails(ring(), "cat ~cat.parent ~cat.parent", 1, [(1, 1, 1), (1, 1, 4), (1, 1, 5)])
        self.trails(ring(), "cat ~cat.parent[shown] parent", 1, [(1, 1, 1), (1, 4, 1)])

    def test_behind_deeds(self):
        store = shop()
        way = Way(SHOP, "line order")
        check_same(self, list(way.trails(store, 9)), [(9, 1)])
        store.change("line", 9, "order", 3)
        check_same(self, list(way.trails(store, 9)), [(9, 3)])
        store.change("line", 9, "order", None)
        check_same(self, list(way.trails(store, 9)), [])

    def test_it_is_a_generator(self):
        trails = Way(SHOP, "customer ~order.customer").trails(shop(), 5)
        self.assertIs(iter(trails), trails)
        self.assertEqual(next(trails), (5, 1))
        self.assertEqual(next(trails), (5, 2))
        self.assertIsNone(next(trails, None))


class FirstTrail(unittest.TestCase):
    def test_the_first_of_several(self):
        store = Store(RING, [("cat", key, {"parent": 4}) for key in (9, 4, 7)])
        way = Way(RING, "cat parent ~cat.parent parent ~cat.parent")
        check_same(self, way.first_trail(store, 7, 9), (7, 4, 4, 4, 9))
        check_same(self, way.first_trail(store=store, key=9, end=4), (9, 4, 4, 4, 4))

    def test_none(self):
        way = Way(SHOP, "line order[paid] customer")
        check_same(self, way.first_trail(shop(), 9, 5), (9, 1, 5))
        for key, end in ((10, 5), (9, 6), (13, 5), (8, 5), (9, 8), (5, 9), (12, 5), (0, 0), (9, -5)):
            check_same(self, way.first_trail(shop(), key, end), None)

    def test_no_step(self):
        way = Way(SHOP, "order[paid]")
        check_same(self, way.first_trail(shop(), 1, 1), (1,))
        for key, end in ((1, 2), (2, 2), (2, 1), (4, 4)):
            check_same(self, way.first_trail(shop(), key, end), None)

    def test_the_least_next_row_may_lead_nowhere(self):
        store = Store(SHOP, [
            ("customer", 1, {}), ("order", 1, {"customer": 1}), ("order", 2, {"customer": 1}),
            ("order", 3, {"customer": 1}), ("line", 8, {"order": 3}), ("line", 9, {"order": 2}),
        ])
        way = Way(SHOP, "customer ~order.customer ~line.order")
        check_same(self, way.first_trail(store, 1, 8), (1, 3, 8))
        check_same(self, way.first_trail(store, 1, 9), (1, 2, 9))

    def test_behind_deeds(self):
        store = shop()
        way = Way(SHOP, "line order customer")
        store.change("order", 3, "customer", 6)
        check_same(self, way.first_trail(store, 13, 6), (13, 3, 6))
        store.remove("line", 13)
        check_same(self, way.first_trail(store, 13, 6), None)


class IsTrail(unittest.TestCase):
    def test_trails(self):
        way = Way(SHOP, "customer ~order.customer[paid] ~line.order")
        for trail in ((5, 1, 9), (5, 1, 11)):
            check_same(self, way.is_trail(shop(), trail), True)
        check_same(self, way.is_trail(store=shop(), thing=(5, 1, 9)), True)

    def test_tuples_that_are_no_trails(self):
        way = Way(SHOP, "customer ~order.customer[paid] ~line.order")
        for thing in (
            (), (5,), (5, 1), (5, 1, 9, 1), (5, 2, 10), (5, 1, 10), (6, 1, 9), (5, 1, 8), (4, 1, 9),
            (9, 1, 5), (5, 3, 13), (0, 0, 0), (5, 1, -9), (5, 1, 12), (5, 4, 9),
        ):
            check_same(self, way.is_trail(shop(), thing), False)

    def test_values_of_other_kinds(self):
        way = Way(SHOP, "customer ~order.customer ~line.order")
        for thing in (
            None, True, 5, "5", "519", [5, 1, 9], {5: 1}, {}, [], "", (5, True, 9), (5, "1", 9), (5, None, 9),
            (5, [1], 9), ([5, 1, 9],), ((5, 1, 9),), (5, (1,), 9), ({}, 1, 9), (5, 1, []), ("customer", 1, 9),
        ):
            check_same(self, way.is_trail(shop(), thing), False)

    def test_true_is_not_one(self):
        store = Store(RING, [("cat", 1, {"parent": 1})])
        way = Way(RING, "cat parent")
        check_same(self, way.is_trail(store, (1, 1)), True)
        for thing in ((True, 1), (1, True), (True, True)):
            check_same(self, way.is_trail(store, thing), False)
        check_same(self, Way(RING, "cat").is_trail(store, (True,)), False)

    def test_no_step(self):
        way = Way(SHOP, "order[paid]")
        check_same(self, way.is_trail(shop(), (1,)), True)
        for thing in ((2,), (4,), (), (1, 1), 1, [1], (None,)):
            check_same(self, way.is_trail(shop(), thing), False)

    def test_flags_of_the_ends(self):
        way = Way(SHOP, "line[ready] order[paid]")
        check_same(self, way.is_trail(shop(), (9, 1)), True)
        check_same(self, way.is_trail(shop(), (10, 2)), False)
        check_same(self, way.is_trail(shop(), (13, 3)), False)

    def test_rings(self):
        way = Way(RING, "cat" + " parent" * 12)
        check_same(self, way.is_trail(ring(), (2, 3) * 6 + (2,)), True)
        check_same(self, way.is_trail(ring(), (3, 2) * 6 + (3,)), True)
        check_same(self, way.is_trail(ring(), (2, 3) * 6 + (3,)), False)
        check_same(self, way.is_trail(ring(), (2, 3) * 6), False)

    def test_behind_deeds(self):
        store = shop()
        way = Way(SHOP, "line order")
        store.change("line", 9, "order", 3)
        check_same(self, way.is_trail(store, (9, 1)), False)
        check_same(self, way.is_trail(store, (9, 3)), True)


class AnyStore(unittest.TestCase):
    def test_against_the_words_of_the_document(self):
        source = random.Random(10)
        many = 0
        for _ in range(400):
            schema = source.choice((SHOP, RING, MIXED))
            store = random_store(source, schema, 8)
            way = random_way(source, schema, 5)
            trails = all_trails(way, store)
            many += len(trails)
            for key in range(10):
                self.check_key(way, store, key, [trail for trail in trails if trail[0] == key])
        self.assertGreater(many, 1000)

    def check_key(self, way, store, key, trails):
        self.assertEqual(list(way.trails(store, key)), trails)
        self.assertEqual(way(store, key), sorted(set(trail[-1] for trail in trails)))
        for trail in trails:
            self.assertIs(way.is_trail(store, trail), True)
        for end in range(10):
            wanted = [trail for trail in trails if trail[-1] == end]
            self.assertEqual(way.first_trail(store, key, end), wanted[0] if wanted else None)

    def test_any_tuple_is_a_trail_or_none(self):
        source = random.Random(11)
        for _ in range(60):
            store = random_store(source, MIXED, 3)
            way = random_way(source, MIXED, 2)
            trails = all_trails(way, store)
            for one in range(9):
                for other in range(9):
                    for thing in ((one,), (one, other), (one, other, one), (one, one, other)):
                        self.assertIs(way.is_trail(store, thing), thing in trails)


class VeryManyTrails(unittest.TestCase):
    def setUp(self):
        # Forty rows with the same parent: a step along and a step back lead from each to each.
        self.store = Store(RING, [("cat", key, {"parent": 7}) for key in range(1, 41)])
        self.way = Way(RING, "cat" + " parent ~cat.parent" * 6)

    def test_ends(self):
        check_same(self, self.way(self.store, 3), list(range(1, 41)))

    def test_first_trail(self):
        check_same(self, self.way.first_trail(self.store, 3, 9), (3, 7) + (1, 7) * 5 + (9,))
        self.assertIsNone(self.way.first_trail(self.store, 3, 41))

    def test_is_trail(self):
        self.assertIs(self.way.is_trail(self.store, (5, 7) * 6 + (40,)), True)
        self.assertIs(self.way.is_trail(self.store, (5, 7) * 6 + (41,)), False)

    def test_the_first_of_all_trails_comes_at_once(self):
        trails = self.way.trails(self.store, 3)
        self.assertEqual(next(trails), (3, 7) + (1, 7) * 5 + (1,))
        self.assertEqual(next(trails), (3, 7) + (1, 7) * 5 + (2,))

    def test_trails_that_all_end_too_early(self):
        self.store.change("cat", 7, "parent", None)
        for key in range(1, 41):
            self.store.change("cat", key, "shown", key != 7)
        way = Way(RING, "cat ~cat.parent" + " parent ~cat.parent" * 5 + " parent[shown]")
        self.assertEqual(list(way.trails(self.store, 7)), [])
        self.assertEqual(way(self.store, 7), [])
        self.assertIsNone(way.first_trail(self.store, 7, 7))


if __name__ == "__main__":
    unittest.main()
