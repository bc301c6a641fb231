import random
import unittest

from owedrebuilds.schemas import Schema
from owedrebuilds.stores import Store
from owedrebuilds.ways import Way, image, least_rows
from helpers import all_trails, check_error, check_same, random_detour, random_store, random_way, strict

SHOP = Schema("\n".join([
    "table product",
    "flag public",
    "table line",
    "value many",
    "link order order cascade",
    "link product product refuse",
    "flag ready",
    "flag public",
    "table order",
    "link customer customer refuse",
    "flag paid",
    "flag late",
    "table customer",
]))
RING = Schema("table cat\nlink parent cat clear\nlink other cat clear\nflag shown\nflag new")


def shop(text):
    return Way(SHOP, text)


def ring(text):
    return Way(RING, text)


def joins(way, store):
    """All pairs of rows that a way joins."""
    return {(trail[0], trail[-1]) for trail in all_trails(way, store)}


class OneAndThenTheOther(unittest.TestCase):
    def test_steps_of_both(self):
        way = shop("product ~line.product[ready]") >> shop("line order customer")
        self.assertIsInstance(way, Way)
        check_same(self, str(way), "product ~line.product[ready] order customer")
        check_same(self, way.tables, ("product", "line", "order", "customer"))
        self.assertEqual(way.schema, SHOP)

    def test_flags_of_both_where_they_meet(self):
        for one, other, wanted in (
            ("", "", ""),
            ("[paid]", "", "[paid]"),
            ("", "[paid]", "[paid]"),
            ("[paid]", "[paid]", "[paid]"),
            ("[paid]", "[late]", "[late,paid]"),
            ("[late]", "[paid]", "[late,paid]"),
            ("[late,paid]", "[paid]", "[late,paid]"),
        ):
            way = shop("line[ready] order" + one) >> shop("order" + other + " ~line.order[public]")
            check_same(self, str(way), "line[ready] order" + wanted + " ~line.order[public]")

    def test_ways_without_steps(self):
        check_same(self, str(shop("order[late]") >> shop("order[paid]")), "order[late,paid]")
        check_same(self, str(shop("order[late]") >> shop("order[paid] customer")), "order[late,paid] customer")
        check_same(self, str(shop("line order[late]") >> shop("order[paid]")), "line order[late,paid]")
        check_same(self, str(shop("order") >> shop("order")), "order")

    def test_three(self):
        way = shop("line order") >> shop("order[paid] customer") >> shop("customer ~order.customer")
        check_same(self, str(way), "line order[paid] customer ~order.customer")

    def test_mismatch(self):
        for one, other, fields in (
            ("line order", "line order", ("order", "line")),
            ("line", "order", ("line", "order")),
            ("order customer", "order", ("customer", "order")),
        ):
            check_error(self, ("Mismatch",) + fields, lambda: shop(one) >> shop(other))

    def test_too_many_steps(self):
        one, two, seven, twelve = [ring("cat" + " parent" * many) for many in (1, 2, 7, 12)]
        check_same(self, len(seven >> two >> two >> one), 12)
        check_same(self, str(twelve >> ring("cat[new]")), "cat" + " parent" * 12 + "[new]")
        check_same(self, str(ring("cat[new]") >> twelve), "cat[new]" + " parent" * 12)
        for first, second in ((twelve, one), (one, twelve), (seven, seven), (twelve, twelve)):
            check_error(self, ("TooMany", "steps"), lambda: first >> second)

    def test_a_mismatch_comes_first(self):
        long = shop("line" + " order ~line.order" * 6)
        check_error(self, ("Mismatch", "line", "order"), lambda: long >> shop("order" + " ~line.order order" * 6))

    def test_both_are_as_before(self):
        one, other = shop("line order[late]"), shop("order[paid]")
        one >> other
        check_same(self, (str(one), str(other)), ("line order[late]", "order[paid]"))

    def test_it_joins_what_one_joins_with_what_the_other_joins(self):
        source = random.Random(3)
        found = 0
        for _ in range(200):
            schema = source.choice((SHOP, RING))
            one, other = random_way(source, schema, 3), random_way(source, schema, 3)
            if one.end != other.start:
                continue
            store = random_store(source, schema, 5)
            pairs = {
                (here, last)
                for here, there in joins(one, store)
                for begin, last in joins(other, store) if begin == there
            }
            self.assertEqual(joins(one >> other, store), pairs)
            found += len(pairs)
        self.assertGreater(found, 100)


class Back(unittest.TestCase):
    def test_examples(self):
        for text, wanted in (
            ("line", "line"),
            ("line[ready,public]", "line[public,ready]"),
            ("line order", "order ~line.order"),
            ("order ~line.order", "line order"),
            ("line[ready] order[paid] customer", "customer ~order.customer[paid] ~line.order[ready]"),
            ("product ~line.product[public] order", "order ~line.order[public] product"),
        ):
            check_same(self, str(~shop(text)), wanted)
            check_same(self, str(~~shop(text)), str(shop(text)))
        self.assertIsInstance(~shop("line"), Way)
        self.assertEqual((~shop("line order")).schema, SHOP)

    def test_links_to_the_own_table(self):
        check_same(self, str(~ring("cat[new] parent other[shown]")), "cat[shown] ~cat.other ~cat.parent[new]")
        check_same(self, str(~ring("cat parent ~cat.parent")), "cat parent ~cat.parent")
        check_same(self, str(~ring("cat parent ~cat.other")), "cat other ~cat.parent")

    def test_twelve_steps(self):
        text = "cat[new]" + " parent" * 5 + " ~cat.other[shown]" + " parent" * 6
        back = "cat" + " ~cat.parent" * 6 + "[shown] other" + " ~cat.parent" * 5 + "[new]"
        check_same(self, str(~ring(text)), back)
        check_same(self, str(~~ring(text)), text)

    def test_it_joins_the_same_rows(self):
        source = random.Random(4)
        found = 0
        for _ in range(200):
            schema = source.choice((SHOP, RING))
            way = random_way(source, schema, 5)
            store = random_store(source, schema, 5)
            pairs = joins(way, store)
            self.assertEqual(joins(~way, store), {(there, here) for here, there in pairs})
            self.assertEqual(str(~~way), str(way))
            found += len(pairs)
        self.assertGreater(found, 100)


class Asking(unittest.TestCase):
    def test_flags_are_added(self):
        way = shop("line order[paid] customer")
        for position, flags, wanted in (
            (0, ("ready",), "line[ready] order[paid] customer"),
            (0, ("ready", "public"), "line[public,ready] order[paid] customer"),
            (0, ("public", "ready"), "line[public,ready] order[paid] customer"),
            (1, ("late",), "line order[late,paid] customer"),
            (1, ("paid",), "line order[paid] customer"),
            (1, ("paid", "late"), "line order[late,paid] customer"),
            (0, (), "line order[paid] customer"),
            (2, (), "line order[paid] customer"),
        ):
            found = way.asking(position, *flags)
            self.assertIsInstance(found, Way)
            check_same(self, str(found), wanted)
        check_same(self, str(way), "line order[paid] customer")

    def test_the_last_position(self):
        check_same(self, str(ring("cat parent").asking(1, "new")), "cat parent[new]")
        check_same(self, str(ring("cat").asking(0, "new")), "cat[new]")
        check_same(self, str(ring("cat" + " other" * 12).asking(12, "new")), "cat" + " other" * 12 + "[new]")
        check_same(self, str(ring("cat").asking(position=0)), "cat")


class Beginning(unittest.TestCase):
    def test_first_steps(self):
        way = shop("line[ready] order[paid] customer ~order.customer[late]")
        for many, wanted in (
            (0, "line[ready]"),
            (1, "line[ready] order[paid]"),
            (2, "line[ready] order[paid] customer"),
            (3, "line[ready] order[paid] customer ~order.customer[late]"),
        ):
            found = way.beginning(many)
            self.assertIsInstance(found, Way)
            check_same(self, str(found), wanted)
        check_same(self, str(way.beginning(many=1)), "line[ready] order[paid]")
        check_same(self, str(shop("line").beginning(0)), "line")


class LiesIn(unittest.TestCase):
    def lies(self, narrow, wide, wanted):
        check_same(self, narrow in wide, wanted)
        check_same(self, narrow not in wide, not wanted)

    def test_examples_of_the_document(self):
        one, other = shop("line order"), shop("line order ~line.order order")
        self.lies(one, other, True)
        self.lies(other, one, True)
        self.lies(shop("line"), shop("line order ~line.order"), False)
        self.lies(shop("line order ~line.order"), shop("line"), False)

    def test_a_way_lies_in_itself(self):
        for text in ("line", "line[ready]", "line order[paid] customer", "customer ~order.customer"):
            self.lies(shop(text), shop(text), True)
        self.lies(ring("cat" + " parent" * 12), ring("cat" + " parent" * 12), True)

    def test_flags(self):
        for narrow, wide in (
            ("line[ready]", "line"),
            ("line[public,ready]", "line[ready]"),
            ("line order[paid]", "line order"),
            ("line[ready] order customer", "line order customer"),
        ):
            self.lies(shop(narrow), shop(wide), True)
            self.lies(shop(wide), shop(narrow), False)
        self.lies(shop("line[ready]"), shop("line[public]"), False)
        self.lies(shop("line[ready] order[paid] ~line.order"), shop("line order[paid] ~line.order[ready]"), False)

    def test_going_and_coming_back_with_flags(self):
        self.lies(shop("line[ready] order"), shop("line order ~line.order[ready] order"), True)
        self.lies(shop("line order"), shop("line order ~line.order[ready] order"), False)
        self.lies(shop("line order ~line.order[ready] order"), shop("line order"), True)
        self.lies(shop("line order ~line.order[ready] order"), shop("line[ready] order"), False)
        # Along a link and back may end at another row, but back and along at the same one only.
        self.lies(shop("order ~line.order order"), shop("order"), True)
        self.lies(shop("order"), shop("order ~line.order order"), False)

    def test_other_links(self):
        self.lies(ring("cat parent"), ring("cat other"), False)
        self.lies(ring("cat parent"), ring("cat ~cat.parent"), False)
        self.lies(ring("cat parent other"), ring("cat other parent"), False)
        self.lies(ring("cat parent parent"), ring("cat parent"), False)
        self.lies(ring("cat parent"), ring("cat parent parent"), False)

    def test_tables_that_link_to_themselves(self):
        self.lies(ring("cat ~cat.parent parent"), ring("cat"), True)
        self.lies(ring("cat"), ring("cat ~cat.parent parent"), False)
        self.lies(ring("cat parent ~cat.parent"), ring("cat parent parent ~cat.parent ~cat.parent"), False)
        self.lies(ring("cat parent parent ~cat.parent ~cat.parent"), ring("cat parent ~cat.parent"), False)
        self.lies(ring("cat parent parent"), ring("cat parent ~cat.parent parent parent"), True)
        self.lies(ring("cat parent ~cat.parent parent ~cat.parent"), ring("cat parent ~cat.parent"), True)
        self.lies(
            ring("cat parent parent ~cat.parent[shown]"),
            ring("cat parent parent ~cat.parent ~cat.parent parent ~cat.parent parent ~cat.parent"), False,
        )
        self.lies(
            ring("cat parent parent ~cat.parent[shown]"),
            ring("cat parent ~cat.parent parent parent ~cat.parent parent ~cat.parent"), True,
        )

    def test_other_starts_and_ends(self):
        self.lies(shop("line"), shop("order"), False)
        self.lies(shop("line order"), shop("line product"), False)
        self.lies(shop("line order"), shop("order"), False)
        self.lies(shop("line order"), shop("line"), False)
        self.lies(shop("order ~line.order"), shop("line order ~line.order"), False)

    def test_values_that_are_no_ways(self):
        for thing in (None, 0, True, "line order", ("line", "order"), ["line order"], {}, (), "", "line"):
            self.lies(thing, shop("line order"), False)
            self.lies(thing, shop("line"), False)

    def test_other_schemas(self):
        longer = Schema(str(SHOP) + "\ntable more")
        self.lies(Way(longer, "line order"), shop("line order"), False)
        self.lies(shop("line order"), Way(longer, "line order"), False)
        self.lies(Way(Schema(str(SHOP)), "line order"), shop("line order"), True)

    def test_very_many_trails(self):
        back = "cat" + " parent ~cat.parent" * 6
        self.lies(ring(back), ring(back), True)
        self.lies(ring(back), ring(back + "[new]"), False)
        self.lies(ring("cat parent ~cat.parent"), ring(back), True)


class Equal(unittest.TestCase):
    def equal(self, one, other, wanted):
        check_same(self, one == other, wanted)
        check_same(self, other == one, wanted)
        check_same(self, one != other, not wanted)

    def test_examples(self):
        self.equal(shop("line order"), shop("line order"), True)
        self.equal(shop("line order"), shop("line order ~line.order order"), True)
        self.equal(shop("line"), shop("line order ~line.order"), False)
        self.equal(shop("line[ready]"), shop("line"), False)
        self.equal(shop("line[ready,public]"), shop("line[public,ready]"), True)
        self.equal(shop("order ~line.order"), shop("order ~line.order order ~line.order"), True)
        self.equal(shop("order ~line.order"), shop("order ~line.order order ~line.order[ready]"), False)
        self.equal(shop("line order"), shop("line product"), False)

    def test_tables_that_link_to_themselves(self):
        self.equal(ring("cat parent"), ring("cat parent ~cat.parent parent"), True)
        self.equal(ring("cat parent"), ring("cat other"), False)
        self.equal(ring("cat parent"), ring("cat ~cat.parent"), False)
        self.equal(ring("cat[new] parent"), ring("cat[new] parent ~cat.parent[new] parent"), True)
        self.equal(ring("cat"), ring("cat"), True)

    def test_nothing_of_another_class(self):
        for thing in (None, 0, "line order", ("line order",), [], SHOP, Store(SHOP, [])):
            self.equal(shop("line order"), thing, False)

    def test_other_schemas(self):
        self.equal(Way(Schema(str(SHOP) + "\ntable more"), "line"), shop("line"), False)
        self.equal(Way(Schema(str(SHOP)), "line"), shop("line"), True)


class AllStores(unittest.TestCase):
    def test_lies_in_against_the_words_of_the_document(self):
        source = random.Random(12)
        stores = {
            str(schema): [random_store(source, schema, 4) for _ in range(40)] for schema in (SHOP, RING)
        }
        found = [0, 0]
        for _ in range(900):
            schema = source.choice((SHOP, RING))
            narrow = random_way(source, schema, 4)
            wide = source.choice((random_detour(source, narrow), random_way(source, schema, 4)))
            if (narrow.start, narrow.end) != (wide.start, wide.end):
                self.assertNotIn(narrow, wide)
                continue
            tried = stores[str(schema)] + [Store(schema, least_rows(narrow)[0])]
            # A way that does not lie in the other one shows it in its least store.
            wanted = all(joins(narrow, store) <= joins(wide, store) for store in tried)
            self.assertIs(narrow in wide, wanted, (str(narrow), str(wide)))
            found[wanted] += 1
        self.assertGreater(min(found), 50)


class Least(unittest.TestCase):
    def least(self, way, rows, trail):
        check_same(self, least_rows(way), (rows, trail))

    def test_no_step(self):
        self.least(shop("customer"), (("customer", 1, {}),), (1,))
        self.least(shop("order[late]"), (("order", 1, {"customer": None, "paid": False, "late": True}),), (1,))

    def test_steps_along(self):
        self.least(shop("line order[paid] customer"), (
            ("line", 1, {"many": 0, "order": 2, "product": None, "ready": False, "public": False}),
            ("order", 2, {"customer": 3, "paid": True, "late": False}),
            ("customer", 3, {}),
        ), (1, 2, 3))

    def test_steps_back(self):
        self.least(shop("customer ~order.customer[late,paid] ~line.order"), (
            ("line", 3, {"many": 0, "order": 2, "product": None, "ready": False, "public": False}),
            ("order", 2, {"customer": 1, "paid": True, "late": True}),
            ("customer", 1, {}),
        ), (1, 2, 3))

    def test_back_and_along_by_another_link(self):
        self.least(shop("product ~line.product[ready] order"), (
            ("product", 1, {"public": False}),
            ("line", 2, {"many": 0, "order": 3, "product": 1, "ready": True, "public": False}),
            ("order", 3, {"customer": None, "paid": False, "late": False}),
        ), (1, 2, 3))

    def test_back_and_along_the_same_link(self):
        self.least(shop("order ~line.order[ready] order[late]"), (
            ("line", 2, {"many": 0, "order": 1, "product": None, "ready": True, "public": False}),
            ("order", 1, {"customer": None, "paid": False, "late": True}),
        ), (1, 2, 1))

    def test_along_and_back_makes_a_new_row(self):
        self.least(shop("line[public] order ~line.order[ready]"), (
            ("line", 1, {"many": 0, "order": 2, "product": None, "ready": False, "public": True}),
            ("line", 3, {"many": 0, "order": 2, "product": None, "ready": True, "public": False}),
            ("order", 2, {"customer": None, "paid": False, "late": False}),
        ), (1, 2, 3))

    def test_along_back_and_along(self):
        self.least(shop("line order ~line.order order[paid] customer"), (
            ("line", 1, {"many": 0, "order": 2, "product": None, "ready": False, "public": False}),
            ("line", 3, {"many": 0, "order": 2, "product": None, "ready": False, "public": False}),
            ("order", 2, {"customer": 4, "paid": True, "late": False}),
            ("customer", 4, {}),
        ), (1, 2, 3, 2, 4))

    def test_the_own_table(self):
        def cat(key, parent, other, shown, new):
            return ("cat", key, {"parent": parent, "other": other, "shown": shown, "new": new})
        self.least(ring("cat parent[new] parent"), (
            cat(1, 2, None, False, False), cat(2, 3, None, False, True), cat(3, None, None, False, False),
        ), (1, 2, 3))
        self.least(ring("cat[shown] parent ~cat.parent[new] parent[shown] other"), (
            cat(1, 2, None, True, False), cat(2, None, 4, True, False), cat(3, 2, None, False, True),
            cat(4, None, None, False, False),
        ), (1, 2, 3, 2, 4))
        self.least(ring("cat ~cat.parent parent other ~cat.other other parent"), (
            cat(1, None, 3, False, False), cat(2, 1, None, False, False), cat(3, 5, None, False, False),
            cat(4, None, 3, False, False), cat(5, None, None, False, False),
        ), (1, 2, 1, 3, 4, 3, 5))

    def test_flags_of_several_positions_in_one_row(self):
        rows, trail = least_rows(shop("order[late] ~line.order order[paid]"))
        check_same(self, trail, (1, 2, 1))
        check_same(self, rows[1], ("order", 1, {"customer": None, "paid": True, "late": True}))

    def test_twelve_steps(self):
        rows, trail = least_rows(ring("cat" + " ~cat.other" * 12))
        check_same(self, trail, tuple(range(1, 14)))
        check_same(self, [cells["other"] for _, _, cells in rows], [None] + list(range(1, 13)))
        rows, trail = least_rows(ring("cat" + " ~cat.other other" * 6))
        check_same(self, trail, (1, 2, 1, 3, 1, 4, 1, 5, 1, 6, 1, 7, 1))
        check_same(self, len(rows), 7)

    def test_by_name(self):
        check_same(self, least_rows(way=shop("customer")), ((("customer", 1, {}),), (1,)))

    def test_they_are_rows_of_a_store_with_the_trail(self):
        source = random.Random(5)
        for _ in range(200):
            way = random_way(source, source.choice((SHOP, RING)), 8)
            rows, trail = least_rows(way)
            store = Store(way.schema, rows)
            check_same(self, store.rows(), list(rows))
            self.assertIs(way.is_trail(store, trail), True)
            self.assertEqual(sorted(set(trail)), list(range(1, len(rows) + 1)))

    def test_what_is_returned_is_new(self):
        way = shop("order ~line.order")
        before = strict(least_rows(way))
        for _, _, cells in least_rows(way)[0]:
            cells.clear()
        self.assertEqual(strict(least_rows(way)), before)
        self.assertIn(way, shop("order ~line.order order ~line.order"))


class Image(unittest.TestCase):
    def test_images(self):
        check_same(self, image(shop("line order"), shop("line order ~line.order order")), (1, 2, 1, 2))
        check_same(self, image(shop("line order ~line.order order"), shop("line order")), (1, 2))
        check_same(self, image(shop("line"), shop("line")), (1,))
        check_same(self, image(shop("line[ready]"), shop("line")), (1,))
        check_same(self, image(narrow=shop("order ~line.order order"), wide=shop("order")), (1,))

    def test_the_first_trail(self):
        way = ring("cat ~cat.parent parent ~cat.parent")
        check_same(self, least_rows(way)[1], (1, 2, 1, 3))
        check_same(self, image(way, ring("cat ~cat.parent parent ~cat.parent parent ~cat.parent")), (1, 2, 1, 2, 1, 3))
        check_same(self, image(way, ring("cat ~cat.parent")), (1, 3))

    def test_none(self):
        for narrow, wide in (
            (shop("line"), shop("line order ~line.order")),
            (shop("line"), shop("line[ready]")),
            (shop("line"), shop("order")),
            (shop("line order"), shop("line")),
            (shop("line"), ring("cat")),
            (shop("line"), Way(Schema(str(SHOP) + "\ntable more"), "line")),
        ):
            check_same(self, image(narrow, wide), None)

    def test_any_ways(self):
        source = random.Random(6)
        found = 0
        for _ in range(900):
            schema = source.choice((SHOP, RING))
            narrow = random_way(source, schema, 4)
            wide = source.choice((random_detour(source, narrow), random_way(source, schema, 4)))
            rows, trail = least_rows(narrow)
            wanted = None
            if (narrow.start, narrow.end) == (wide.start, wide.end):
                trails = all_trails(wide, Store(schema, rows))
                fitting = [way for way in trails if (way[0], way[-1]) == (trail[0], trail[-1])]
                wanted = fitting[0] if fitting else None
            check_same(self, image(narrow, wide), wanted)
            found += wanted is not None
        self.assertGreater(found, 50)

    def test_very_many_trails(self):
        way = ring("cat" + " parent ~cat.parent" * 6)
        trail = image(way, way)
        check_same(self, trail, (1, 2) * 6 + (8,))


if __name__ == "__main__":
    unittest.main()
