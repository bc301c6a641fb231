import random
import unittest

from owedrebuilds.documents import Document
from owedrebuilds.schemas import Schema
from owedrebuilds.stores import Store
from owedrebuilds.ways import Way
from helpers import all_trails, check_error, check_same, error_of, random_store, random_way

SHOP = Schema("\n".join([
    "table product",
    "flag public",
    "value price",
    "table line",
    "value many",
    "link order order cascade",
    "link product product refuse",
    "flag ready",
    "flag public",
    "table order",
    "link customer customer clear",
    "flag paid",
    "value number",
    "table customer",
    "value age",
]))
RING = Schema("table cat\nvalue name\nlink parent cat clear\nlink other cat clear\nflag shown\nflag new")


def shop(text):
    return Way(SHOP, text)


def ring(text):
    return Way(RING, text)


def store():
    return Store(SHOP, [
        ("customer", 5, {"age": 50}),
        ("customer", 6, {"age": -1}),
        ("order", 1, {"customer": 5, "paid": True, "number": 100}),
        ("order", 2, {"customer": 5, "number": 200}),
        ("order", 3, {}),
        ("line", 10, {"order": 2, "ready": True, "many": 3}),
        ("line", 9, {"order": 1, "ready": True, "many": 4}),
        ("line", 8, {"order": 1, "many": 5}),
    ])


ORDERS = (shop("customer ~order.customer"), "number")
LINES = (shop("customer ~order.customer ~line.order[ready]"), "many")
AGE = (shop("customer"), "age")
PAID = (shop("customer ~order.customer"), "paid")


class Making(unittest.TestCase):
    def bad(self, at, *given):
        check_error(self, ("BadDocument", at), Document, *given)

    def test_attributes(self):
        document = Document("sheet", AGE, LINES, PAID)
        check_same(self, document.name, "sheet")
        self.assertEqual(document.reads, (AGE, LINES, PAID))
        self.assertIsInstance(document.reads, tuple)
        self.assertIsInstance(document.reads[1], tuple)
        check_same(self, [(str(way), column) for way, column in document.reads], [
            ("customer", "age"), ("customer ~order.customer ~line.order[ready]", "many"),
            ("customer ~order.customer", "paid"),
        ])
        check_same(self, document.base, "customer")
        self.assertEqual(document.schema, SHOP)
        check_same(self, len(document), 3)

    def test_one_to_four_reads(self):
        for many in (1, 2, 3, 4):
            check_same(self, len(Document("sheet", *[AGE] * many)), many)
        self.bad(-1, "sheet")
        self.bad(-1, "sheet", *[AGE] * 5)
        self.bad(-1, "sheet", *[None] * 5)

    def test_two_reads_may_be_equal(self):
        document = Document("sheet", LINES, LINES)
        check_same(self, document(store(), 5), (document(store(), 5)[0],) * 2)

    def test_names(self):
        for name in ("a", "zzzzzzzz", "key", "self", "table", "line", "read", "document"):
            check_same(self, Document(name, AGE).name, name)
        for name in (
            "", "abcdefghi", "Sheet", "sheet ", "two words", "a1", "a_b", None, 1, True, [], ["sheet"],
            ("sheet",), {}, "sheet\n", "~",
        ):
            self.bad(-1, name, AGE)

    def test_a_wrong_name_comes_first(self):
        self.bad(-1, "", None)
        self.bad(-1, None)
        self.bad(-1, "")
        self.bad(-1, 5, *[AGE] * 5)

    def test_reads_of_wrong_kinds(self):
        way, column = AGE
        for read in (
            None, 1, True, "age", "customer age", (), (way,), (way, column, column), [way, column],
            ("customer", "age"), (None, "age"), (column, way), (way, None), (way, 1), (way, True),
            (way, ("age",)), (way, ["age"]), (way, {}), ((way, column),), (way, way), {}, [], ((), ()),
        ):
            self.bad(0, "sheet", read)
            self.bad(1, "sheet", AGE, read)
            self.bad(2, "sheet", AGE, LINES, read, None)
            self.bad(0, "sheet", read, AGE)

    def test_columns(self):
        check_same(self, Document("sheet", (shop("line"), "many")).reads[0][1], "many")
        check_same(self, Document("sheet", (shop("line"), "ready")).reads[0][1], "ready")
        check_same(self, Document("sheet", (shop("line[ready]"), "ready")).reads[0][1], "ready")
        for column in ("order", "product", "number", "age", "line", "", "Many", "man", "key", "customer"):
            self.bad(0, "sheet", (shop("line"), column))
        # The column is one of the table where the way ends.
        self.bad(0, "sheet", (shop("line order"), "many"))
        self.bad(0, "sheet", (shop("line order"), "customer"))
        check_same(self, Document("sheet", (shop("line order"), "number")).base, "line")

    def test_five_steps(self):
        for many in (0, 1, 4, 5):
            Document("sheet", (ring("cat" + " parent" * many), "name"))
        for many in (6, 7, 12):
            self.bad(0, "sheet", (ring("cat" + " parent" * many), "name"))
            self.bad(1, "sheet", (ring("cat"), "name"), (ring("cat" + " ~cat.other" * many), "name"))

    def test_four_flags(self):
        for text in (
            "cat[new,shown] parent[new,shown]", "cat[new] parent[new] parent[new] parent[new]",
            "cat parent[shown,new] other[new] parent other parent[shown]",
        ):
            Document("sheet", (ring(text), "name"))
            Document("sheet", (ring(text), "name"), (ring(text), "new"))
        for text in (
            "cat[new,shown] parent[new,shown] parent[new]", "cat" + "[new]" + " parent[new]" * 4,
            "cat[new,shown] parent[new,shown] parent[new,shown]",
        ):
            self.bad(0, "sheet", (ring(text), "name"))
            self.bad(1, "sheet", (ring("cat"), "name"), (ring(text), "name"), None)

    def test_another_start(self):
        self.bad(1, "sheet", AGE, (shop("order"), "number"))
        self.bad(2, "sheet", AGE, AGE, (shop("order customer"), "age"), AGE)
        self.bad(3, "sheet", AGE, AGE, AGE, (shop("line"), "many"))

    def test_another_schema(self):
        longer = Schema(str(SHOP) + "\ntable more")
        self.bad(1, "sheet", AGE, (Way(longer, "customer"), "age"))
        self.bad(1, "sheet", (Way(longer, "customer"), "age"), AGE)
        twin = Document("sheet", AGE, (Way(Schema(str(SHOP)), "customer"), "age"))
        check_same(self, len(twin), 2)

    def test_first_wrong_read(self):
        self.bad(0, "sheet", None, None)
        self.bad(1, "sheet", AGE, (shop("order"), "number"), None)
        self.bad(1, "sheet", AGE, None, (shop("order"), "number"))
        self.bad(2, "sheet", AGE, AGE, (shop("order"), "oops"), None)

    def test_name_by_name(self):
        self.assertEqual(error_of(Document, name="sheet"), ("BadDocument", -1))


class Content(unittest.TestCase):
    def test_trails_with_cells(self):
        document = Document("sheet", AGE, LINES, ORDERS, PAID)
        check_same(self, document(store(), 5), (
            (((5,), 50),),
            (((5, 1, 9), 4), ((5, 2, 10), 3)),
            (((5, 1), 100), ((5, 2), 200)),
            (((5, 1), True), ((5, 2), False)),
        ))
        check_same(self, document(store=store(), key=5), document(store(), 5))

    def test_no_trails(self):
        check_same(self, Document("sheet", LINES, ORDERS)(store(), 6), ((), ()))
        check_same(self, Document("sheet", LINES)(store(), 6), ((),))
        check_same(self, Document("sheet", LINES, AGE)(store(), 6), ((), (((6,), -1),)))
        self_read = Document("sheet", (shop("order[paid]"), "paid"))
        check_same(self, self_read(store(), 1), ((((1,), True),),))
        check_same(self, self_read(store(), 2), ((),))

    def test_the_same_last_row_by_several_trails(self):
        document = Document("sheet", (shop("customer ~order.customer customer"), "age"))
        check_same(self, document(store(), 5), ((((5, 1, 5), 50), ((5, 2, 5), 50)),))

    def test_many_trails(self):
        # Ten rows that all have the same parent: a thousand ways to go.
        rows = [("cat", key, {"parent": 10, "name": key * key}) for key in range(1, 11)]
        family = Store(RING, rows)
        document = Document("tree", (ring("cat ~cat.parent parent ~cat.parent parent ~cat.parent"), "name"))
        wanted = tuple(
            ((10, one, 10, two, 10, three), three * three)
            for one in range(1, 11) for two in range(1, 11) for three in range(1, 11)
        )
        check_same(self, document(family, 10), (wanted,))
        check_same(self, document(family, 9), ((),))
        check_same(self, document.count(family, 10), 1000)
        check_same(self, document.count(family, 9), 0)

    def test_no_row(self):
        document = Document("sheet", LINES)
        for key in (1, 7, 9, 0, -1, 10 ** 12):
            check_error(self, ("NoRow", "customer", key), document, store(), key)
            check_error(self, ("NoRow", "customer", key), document.count, store(), key)

    def test_behind_deeds(self):
        family = store()
        document = Document("sheet", LINES)
        family.change("line", 8, "ready", True)
        check_same(self, document(family, 5), ((((5, 1, 8), 5), ((5, 1, 9), 4), ((5, 2, 10), 3)),))
        family.change("order", 1, "customer", 6)
        check_same(self, document(family, 5), ((((5, 2, 10), 3),),))
        check_same(self, document(family, 6), ((((6, 1, 8), 5), ((6, 1, 9), 4)),))
        family.remove("customer", 5)
        check_error(self, ("NoRow", "customer", 5), document, family, 5)
        check_error(self, ("NoRow", "customer", 5), document.count, family, 5)

    def test_against_the_words_of_the_document(self):
        source = random.Random(14)
        found = 0
        for _ in range(300):
            schema = source.choice((SHOP, RING))
            ways = [random_way(source, schema, 4) for _ in range(12)]
            fitting = [way for way in ways if way.start == ways[0].start and sum(map(len, way.asked)) <= 4]
            reads = [(way, read_column(schema, way.end)) for way in fitting[:4]]
            if not reads:
                continue
            document = Document("sheet", *reads)
            rows = random_store(source, schema, 6)
            for key in rows.row_keys(document.base):
                wanted = content_of(document, rows, key)
                self.assertEqual(document(rows, key), wanted)
                self.assertEqual(document.count(rows, key), sum(len(entry) for entry in wanted))
                found += document.count(rows, key)
        self.assertGreater(found, 1000)


def read_column(schema, table):
    return [column for column in schema.columns(table) if schema.kind(table, column) != "link"][-1]


def content_of(document, rows, key):
    """The content, by the words of point 14."""
    return tuple(
        tuple(
            (trail, rows.cell_of(way.end, trail[-1], column))
            for trail in all_trails(way, rows) if trail[0] == key
        )
        for way, column in document.reads
    )


class Count(unittest.TestCase):
    def test_trails_of_all_reads(self):
        check_same(self, Document("sheet", AGE).count(store(), 5), 1)
        check_same(self, Document("sheet", AGE, LINES, ORDERS, PAID).count(store(), 5), 7)
        check_same(self, Document("sheet", AGE, LINES, ORDERS, PAID).count(store(), 6), 1)
        check_same(self, Document("sheet", LINES, LINES).count(store(), 5), 4)
        check_same(self, Document("sheet", LINES).count(store=store(), key=5), 2)

    def test_flags_at_the_start(self):
        document = Document("sheet", (shop("order[paid] ~line.order"), "many"))
        check_same(self, document.count(store(), 1), 2)
        check_same(self, document.count(store(), 2), 0)

    def test_a_ring(self):
        rows = [("cat", key, {"parent": key % 40 + 1, "other": key}) for key in range(1, 41)]
        document = Document("tree", (ring("cat parent parent other other parent"), "name"))
        check_same(self, document.count(Store(RING, rows), 40), 1)

    def test_too_many_to_list(self):
        rows = [("cat", key, {"parent": 40, "other": 40}) for key in range(1, 41)]
        many = (ring("cat ~cat.parent other ~cat.other other ~cat.parent"), "name")
        document = Document("tree", many, many, many, many)
        check_same(self, document.count(Store(RING, rows), 40), 4 * 40 ** 3)


class Has(unittest.TestCase):
    def test_ways_of_reads(self):
        document = Document("sheet", AGE, LINES)
        for text in ("customer", "customer ~order.customer ~line.order[ready]"):
            check_same(self, shop(text) in document, True)
        # An equal way that is written in other words.
        check_same(self, shop("customer ~order.customer ~line.order[ready] order ~line.order[ready]") in document, True)
        for text in ("customer ~order.customer", "customer ~order.customer ~line.order", "order", "line"):
            check_same(self, shop(text) in document, False)

    def test_a_way_that_only_lies_in_one(self):
        document = Document("sheet", (shop("line"), "many"))
        check_same(self, shop("line order ~line.order") in document, False)
        check_same(self, shop("line[ready]") in document, False)
        document = Document("sheet", (shop("line order ~line.order"), "many"))
        check_same(self, shop("line") in document, False)

    def test_another_schema(self):
        check_same(self, Way(Schema(str(SHOP) + "\ntable more"), "customer") in Document("sheet", AGE), False)

    def test_other_values(self):
        document = Document("sheet", AGE, LINES)
        for thing in (None, 0, True, "customer", "age", AGE, ("customer", "age"), [], {}, document.reads, "sheet"):
            check_same(self, thing in document, False)


class Changes(unittest.TestCase):
    """When a change changes a copy (point 15): the contents tell."""

    def contents(self, deed, key):
        document = Document("sheet", LINES, AGE)
        rows = store()
        ahead = document(rows, key)
        rows.apply(deed)
        return ahead != document(rows, key)

    def test_cells(self):
        for deed, wanted in (
            (("set", "line", 9, "many", 7), True),
            (("set", "line", 8, "many", 7), False),
            (("set", "line", 8, "ready", True), True),
            (("set", "line", 9, "ready", False), True),
            (("set", "line", 9, "order", 2), True),
            (("set", "line", 9, "order", 3), True),
            (("set", "line", 8, "order", 3), False),
            (("set", "line", 9, "public", True), False),
            (("set", "order", 1, "customer", None), True),
            (("set", "order", 3, "customer", 5), False),
            (("set", "order", 1, "paid", False), False),
            (("set", "customer", 5, "age", 51), True),
            (("set", "customer", 6, "age", 51), False),
        ):
            check_same(self, self.contents(deed, 5), wanted)

    def test_rows(self):
        for deed, wanted in (
            (("put", "line", 1, {"order": 1, "ready": True}), True),
            (("put", "line", 1, {"order": 1}), False),
            (("put", "line", 1, {"order": 3, "ready": True}), False),
            (("put", "customer", 9, {}), False),
            (("remove", "line", 9), True),
            (("remove", "line", 8), False),
            (("remove", "order", 1), True),
            (("remove", "order", 3), False),
        ):
            check_same(self, self.contents(deed, 5), wanted)

    def test_another_trail_with_the_same_cells_is_another_content(self):
        rows = store()
        document = Document("sheet", (shop("order ~line.order"), "many"))
        rows.change("line", 8, "many", 4)
        ahead = document(rows, 1)
        rows.remove("line", 8)
        rows.put("line", 7, order=1, many=4)
        behind = document(rows, 1)
        check_same(self, [cell for _, cell in ahead[0]], [cell for _, cell in behind[0]])
        self.assertNotEqual(ahead, behind)

    def test_a_copy_whose_row_is_removed_is_gone(self):
        document = Document("sheet", AGE)
        rows = store()
        rows.remove("customer", 6)
        check_error(self, ("NoRow", "customer", 6), document, rows, 6)
        rows.put("customer", 6)
        check_same(self, document(rows, 6), ((((6,), 0),),))


if __name__ == "__main__":
    unittest.main()
