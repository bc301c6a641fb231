import unittest

from owedrebuilds.books import Book
from owedrebuilds.documents import Document
from owedrebuilds.errors import OwedError
from owedrebuilds.hooks import Hook
from owedrebuilds.schemas import Schema
from owedrebuilds.ways import Way
from helpers import check_error, check_same, error_of

SHOP = Schema("\n".join([
    "table line",
    "value many",
    "link order order cascade",
    "link other order clear",
    "flag ready",
    "table order",
    "link customer customer clear",
    "flag paid",
    "table customer",
    "value age",
]))
OTHER = Schema(str(SHOP) + "\ntable more")


def shop(text):
    return Way(SHOP, text)


def hook(text="line order", event=None, look="behind", name="sheet", schema=SHOP):
    way = Way(schema, text)
    return Hook(event or ("put", way.start), look, way, name)


def sheet(many=1, name="sheet"):
    """A document on orders with so many reads."""
    return Document(name, *[(shop("order ~line.order"), "many")] * many)


AGES = Document("ages", (shop("customer"), "age"))
CROOKED = Document("sheet", (shop("order"), "paid"), (shop("order ~line.order order"), "paid"))
LINE = hook()
PAID = hook("order", ("set", "order", "paid"), "ahead")
AGE = hook("customer", ("set", "customer", "age"), "behind", "ages")


class Making(unittest.TestCase):
    def bad(self, what, at, documents, hooks=(), bulk=()):
        check_error(self, ("BadBook", what, at), Book, documents, hooks, bulk=bulk)

    def test_attributes(self):
        document = sheet()
        for kind in (list, tuple):
            book = Book(kind([document, AGES]), kind([LINE, AGE, PAID]), bulk=(("line", "many"),))
            self.assertIsInstance(book.documents, tuple)
            self.assertIsInstance(book.hooks, tuple)
            self.assertEqual([id(part) for part in book.documents], [id(document), id(AGES)])
            self.assertEqual([id(part) for part in book.hooks], [id(LINE), id(AGE), id(PAID)])
            check_same(self, book.bulk, (("line", "many"),))
            self.assertEqual(book.schema, SHOP)

    def test_without_hooks_and_bulk_columns(self):
        book = Book([sheet()], [])
        check_same(self, (book.hooks, book.bulk), ((), ()))

    def test_by_name(self):
        book = Book(hooks=[LINE], documents=[sheet()], bulk=(("line", "ready"),))
        check_same(self, (len(book), book.bulk), (1, (("line", "ready"),)))

    def test_bulk_is_passed_by_name_only(self):
        with self.assertRaises(TypeError):
            Book([sheet()], [], (("line", "many"),))

    def test_arguments_are_copied(self):
        documents, hooks = [sheet()], [LINE]
        book = Book(documents, hooks)
        documents.append(AGES)
        hooks.clear()
        check_same(self, (len(book.documents), len(book.hooks)), (1, 1))

    def test_one_to_three_documents(self):
        for many in (1, 2, 3):
            check_same(self, len(Book([sheet(name="a" * at) for at in range(1, many + 1)], []).documents), many)
        self.bad("documents", -1, [])
        self.bad("documents", -1, ())
        self.bad("documents", -1, [sheet(name="a" * at) for at in range(1, 5)])
        self.bad("documents", -1, [sheet(4)] * 4)

    def test_documents_of_another_schema_or_with_the_same_name(self):
        other = Document("other", (Way(OTHER, "order"), "paid"))
        self.bad("documents", 1, [sheet(), other])
        self.bad("documents", 1, [other, sheet()])
        self.bad("documents", 2, [sheet(), AGES, other])
        self.bad("documents", 1, [sheet(), other, sheet()])
        self.bad("documents", 1, [sheet(), sheet()])
        self.bad("documents", 2, [sheet(), AGES, sheet()])
        self.bad("documents", 2, [sheet(), AGES, Document("ages", (shop("order"), "paid"))])
        self.bad("documents", 1, [sheet(), Document("sheet", (shop("customer"), "age")), other])
        twin = Document("twin", (Way(Schema(str(SHOP)), "order"), "paid"))
        check_same(self, len(Book([sheet(), twin], []).documents), 2)

    def test_four_reads_in_all(self):
        for manys in ((4,), (1, 3), (3, 1), (2, 2), (2, 1, 1)):
            Book([sheet(many, "a" * at) for at, many in enumerate(manys, 1)], [])
        for manys, at in (((4, 1), 1), ((1, 4), 1), ((3, 2), 1), ((2, 2, 1), 2), ((3, 1, 1), 2), ((4, 4, 4), 1)):
            self.bad("documents", at, [sheet(many, "a" * at) for at, many in enumerate(manys, 1)])

    def test_names_and_schemas_come_ahead_of_the_number_of_reads(self):
        other = Document("other", (Way(OTHER, "order"), "paid"))
        self.bad("documents", 2, [sheet(4), sheet(1, "more"), other])
        self.bad("documents", 2, [sheet(4), sheet(1, "more"), sheet()])

    def test_hooks_about_no_document(self):
        self.bad("hooks", 0, [sheet()], [AGE])
        self.bad("hooks", 1, [sheet()], [LINE, AGE])
        self.bad("hooks", 2, [sheet(), AGES], [LINE, AGE, hook(name="oops")])
        self.bad("hooks", 1, [sheet(), AGES], [LINE, hook(name="oops"), hook(name="oops")])

    def test_hooks_with_another_schema(self):
        self.bad("hooks", 1, [sheet()], [LINE, hook(schema=OTHER), AGE])
        Book([sheet()], [hook(schema=Schema(str(SHOP)))])

    def test_hooks_that_end_elsewhere(self):
        self.bad("hooks", 0, [sheet()], [hook("line")])
        self.bad("hooks", 1, [sheet(), AGES], [LINE, hook("line order", name="ages")])
        self.bad("hooks", 1, [sheet(), AGES], [LINE, hook("line order customer")])
        Book([sheet(), AGES], [hook("line order customer", name="ages")])

    def test_sixty_and_sixty_one_hooks(self):
        check_same(self, len(Book([sheet()], [LINE] * 60)), 60)
        self.bad("hooks", 60, [sheet()], [LINE] * 61)
        self.bad("hooks", 60, [sheet()], [LINE] * 60 + [AGE] * 3)
        self.bad("hooks", 59, [sheet()], [LINE] * 59 + [AGE] * 3)
        self.bad("hooks", 0, [sheet()], [AGE] * 70)

    def test_bulk_columns(self):
        for columns in (
            (), (("line", "many"),), (("line", "order"), ("line", "ready"), ("order", "paid")),
            (("customer", "age"), ("order", "customer")),
        ):
            check_same(self, Book([sheet()], [], bulk=columns).bulk, columns)

    def test_wrong_bulk_columns(self):
        for thing in (
            None, True, 1, "line", "many", "", (), ("line",), ("line", "many", "many"), ["line", "many"],
            ("line", "paid"), ("many", "line"), ("line", ""), ("line", None), (1, 2), ("line", ("many",)),
            (["line"], "many"), {}, {"line": "many"}, ("line", "key"), ("Line", "many"), (("line", "many"),),
        ):
            self.bad("bulk", 0, [sheet()], [], (thing,))
            self.bad("bulk", 1, [sheet()], [], (("line", "many"), thing))
            self.bad("bulk", 2, [sheet()], [], (("line", "many"), ("line", "ready"), thing, None))

    def test_bulk_columns_that_occur_twice(self):
        many, ready = ("line", "many"), ("line", "ready")
        self.bad("bulk", 1, [sheet()], [], (many, many))
        self.bad("bulk", 2, [sheet()], [], (many, ready, many, ready))
        self.bad("bulk", 2, [sheet()], [], (many, ready, ready))

    def test_what_comes_first(self):
        self.bad("documents", -1, [], [AGE], (None,))
        self.bad("documents", 1, [sheet(), sheet()], [AGE], (None,))
        self.bad("documents", 1, [sheet(4), AGES], [hook("line")], (None,))
        self.bad("hooks", 0, [sheet()], [AGE], (None,))
        self.bad("bulk", 0, [CROOKED], [hook(look="late")], (None,))
        self.bad("hooks", 1, [CROOKED], [hook(look="late"), AGE])


class Straight(unittest.TestCase):
    def crooked(self, where, documents, hooks, bulk=()):
        check_error(self, ("Crooked", where), Book, documents, hooks, bulk=bulk)

    def test_without_late_hooks_any_way_goes(self):
        Book([CROOKED], [LINE, hook("line order ~line.order other")])

    def test_straight_books_may_have_late_hooks(self):
        book = Book([sheet(), AGES], [hook(look="late"), AGE, hook("line order customer", None, "late", "ages")])
        check_same(self, len(book), 3)

    def test_reads(self):
        late = hook(look="late")
        self.crooked(("sheet", 1), [CROOKED], [late])
        self.crooked(("sheet", 1), [CROOKED], [LINE, hook("line order ~line.order other"), late])
        self.crooked(("more", 0), [sheet(), Document("more", (shop("order ~line.order other"), "paid"))], [late])
        self.crooked(("more", 0), [
            sheet(), Document("more", *[(shop("order ~line.order other"), "paid")] * 2), CROOKED_TOO,
        ], [late])
        # The document of the late hook may be straight itself.
        self.crooked(("sheet", 1), [CROOKED, AGES], [hook("customer", None, "late", "ages")])

    def test_hooks(self):
        bent = hook("line order ~line.order other")
        self.crooked(0, [sheet()], [hook("line order ~line.order order", None, "late")])
        self.crooked(1, [sheet()], [hook(look="late"), bent])
        self.crooked(1, [sheet()], [LINE, bent, bent, hook(look="late")])
        self.crooked(2, [sheet(), AGES], [AGE, LINE, bent, hook("customer", None, "late", "ages")])

    def test_reads_come_first(self):
        self.crooked(("sheet", 1), [CROOKED], [hook("line order ~line.order order", None, "late")])


CROOKED_TOO = Document("third", (shop("order ~line.order other"), "paid"))


class Asking(unittest.TestCase):
    def test_document_named(self):
        document = sheet()
        book = Book([document, AGES], [])
        self.assertTrue(book.document_named("sheet") is document)
        self.assertTrue(book.document_named(name="ages") is AGES)
        for name in ("oops", "", "Sheet", "line"):
            check_error(self, ("NoDocument", name, None), book.document_named, name)

    def test_len_and_truth(self):
        for many in (0, 1, 2, 5):
            book = Book([sheet()], [LINE] * many)
            check_same(self, len(book), many)
            check_same(self, bool(book), many > 0)

    def test_iteration(self):
        book = Book([sheet(), AGES], [LINE, AGE, LINE, PAID])
        self.assertEqual([id(found) for found in book], [id(LINE), id(AGE), id(LINE), id(PAID)])
        self.assertEqual([found for found in book], list(book))
        self.assertEqual(list(Book([sheet()], [])), [])

    def test_contains(self):
        book = Book([sheet()], [hook("line order ~line.order order"), PAID])
        self.assertTrue(PAID in book)
        self.assertTrue(hook("order", ("set", "order", "paid"), "ahead") in book)
        # Hooks are equal if their ways join the same rows.
        self.assertTrue(LINE in book)
        for thing in (
            AGE, PAID.looking("behind"), hook(event=("remove", "line")), hook("line[ready] order"),
            hook(name="other"), None, 0, 1, True, "hook put behind sheet line order", str(PAID), (), [PAID],
            (PAID,), {}, sheet(), book, SHOP, PAID.way,
        ):
            check_same(self, thing in book, False)
        check_same(self, LINE in Book([sheet()], []), False)

    def test_only(self):
        book = Book([sheet(), AGES], [LINE, AGE, PAID], bulk=(("line", "many"),))
        for numbers in ([], [0], [2, 0], (1,), (2, 1, 0), [0, 1, 2]):
            part = book.only(numbers)
            self.assertIsInstance(part, Book)
            self.assertEqual([id(found) for found in part], [id(book.hooks[number]) for number in numbers])
            self.assertEqual(part.documents, book.documents)
            check_same(self, part.bulk, (("line", "many"),))
        check_same(self, len(book.only(numbers=[1])), 1)
        check_same(self, len(book), 3)

    def test_plus(self):
        book = Book([sheet(), AGES], [LINE], bulk=(("line", "many"),))
        more = book.plus(AGE, PAID)
        self.assertEqual([id(found) for found in more], [id(LINE), id(AGE), id(PAID)])
        self.assertEqual(more.documents, book.documents)
        check_same(self, more.bulk, (("line", "many"),))
        check_same(self, (len(book), len(book.plus()), len(book.plus(LINE))), (1, 1, 2))

    def test_plus_raises_as_book(self):
        book = Book([sheet()], [LINE])
        check_error(self, ("BadBook", "hooks", 2), book.plus, LINE, AGE)
        check_error(self, ("BadBook", "hooks", 1), book.plus, hook("line"))
        check_error(self, ("BadBook", "hooks", 60), book.plus, *[LINE] * 60)
        check_same(self, len(book.plus(*[LINE] * 59)), 60)
        crooked = Book([CROOKED], [])
        check_error(self, ("Crooked", ("sheet", 1)), crooked.plus, hook(look="late"))
        check_error(self, ("Crooked", 1), book.plus, hook("line order ~line.order order", None, "late"))

    def test_errors_are_owed_errors(self):
        for error in (error_of(Book, [], []), error_of(Book, [CROOKED], [hook(look="late")])):
            self.assertIsNotNone(error)
        with self.assertRaises(OwedError):
            Book([], [])


if __name__ == "__main__":
    unittest.main()
