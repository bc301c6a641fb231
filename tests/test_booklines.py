import unittest

from owedrebuilds.books import Book
from owedrebuilds.documents import Document
from owedrebuilds.hooks import Hook
from owedrebuilds.schemas import Schema
from owedrebuilds.ways import Way
from helpers import check_error, check_same

SCHEMA = [
    "table line",
    "value many",
    "link order order cascade",
    "flag ready",
    "flag public",
    "table order",
    "link customer customer clear",
    "flag paid",
    "table customer",
    "value age",
]
DOCUMENTS = [
    "document sheet",
    "read many order[paid] ~line.order[public,ready]",
    "read paid order",
    "document ages",
    "read age customer",
]
HOOKS = [
    "hook set many behind sheet line order",
    "hook set order ahead sheet line[public,ready] order[paid]",
    "hook put late sheet line[ready] order",
    "hook remove ahead sheet line order",
    "hook set paid late sheet order",
    "hook put behind ages customer",
    "hook put behind sheet order",
]
BULK = ["bulk line public", "bulk customer age"]
LINES = SCHEMA + DOCUMENTS + HOOKS + BULK
HEAD = len(SCHEMA)
FIRST_HOOK = HEAD + len(DOCUMENTS)
FIRST_BULK = FIRST_HOOK + len(HOOKS)


def read(lines):
    return Book.read("\n".join(lines))


class Writing(unittest.TestCase):
    def test_lines(self):
        schema = Schema("\n".join(SCHEMA))
        sheet = Document(
            "sheet", (Way(schema, "order[paid] ~line.order[ready,public]"), "many"), (Way(schema, "order"), "paid"),
        )
        ages = Document("ages", (Way(schema, "customer"), "age"))
        line, order, customer = Way(schema, "line order"), Way(schema, "order"), Way(schema, "customer")
        book = Book([sheet, ages], [
            Hook(("set", "line", "many"), "behind", line, "sheet"),
            Hook(("set", "line", "order"), "ahead", Way(schema, "line[ready,public] order[paid]"), "sheet"),
            Hook(("put", "line"), "late", Way(schema, "line[ready] order"), "sheet"),
            Hook(("remove", "line"), "ahead", line, "sheet"),
            Hook(("set", "order", "paid"), "late", order, "sheet"),
            Hook(("put", "customer"), "behind", customer, "ages"),
            Hook(("put", "order"), "behind", order, "sheet"),
        ], bulk=(("line", "public"), ("customer", "age")))
        check_same(self, str(book), "\n".join(LINES))

    def test_without_hooks(self):
        schema = Schema("table a\nflag f")
        check_same(self, str(Book([Document("doc", (Way(schema, "a"), "f"))], [])), (
            "table a\nflag f\ndocument doc\nread f a"
        ))

    def test_parts(self):
        book = read(LINES)
        check_same(self, str(book.only([1])), "\n".join(SCHEMA + DOCUMENTS + HOOKS[1:2] + BULK))
        check_same(self, str(book.only([])), "\n".join(SCHEMA + DOCUMENTS + BULK))
        check_same(self, str(book.only([0]).plus(book.hooks[5])), "\n".join(
            SCHEMA + DOCUMENTS + [HOOKS[0], HOOKS[5]] + BULK
        ))


class Reading(unittest.TestCase):
    def test_what_is_written_is_read_again(self):
        for lines in (
            LINES, SCHEMA + DOCUMENTS, SCHEMA + DOCUMENTS + HOOKS, SCHEMA + DOCUMENTS + BULK,
            SCHEMA + DOCUMENTS[3:] + HOOKS[5:6] + BULK[1:],
            SCHEMA + DOCUMENTS[3:] + DOCUMENTS[:3] + HOOKS[::-1] + BULK[::-1],
        ):
            check_same(self, str(read(lines)), "\n".join(lines))

    def test_parts(self):
        book = read(LINES)
        self.assertIsInstance(book, Book)
        check_same(self, [document.name for document in book.documents], ["sheet", "ages"])
        check_same(self, [len(document) for document in book.documents], [2, 1])
        check_same(self, [column for _, column in book.documents[0].reads], ["many", "paid"])
        check_same(self, [hook.event for hook in book], [
            ("set", "line", "many"), ("set", "line", "order"), ("put", "line"), ("remove", "line"),
            ("set", "order", "paid"), ("put", "customer"), ("put", "order"),
        ])
        check_same(self, [hook.look for hook in book], [
            "behind", "ahead", "late", "ahead", "late", "behind", "behind",
        ])
        check_same(self, [hook.document for hook in book], ["sheet"] * 5 + ["ages", "sheet"])
        check_same(self, book.bulk, (("line", "public"), ("customer", "age")))
        check_same(self, str(book.schema), "\n".join(SCHEMA))

    def test_a_static_method_and_its_argument_by_name(self):
        self.assertIsInstance(vars(Book)["read"], staticmethod)
        check_same(self, str(Book.read(text="\n".join(LINES))), "\n".join(LINES))

    def test_flags_in_either_order(self):
        lines = [line.replace("public,ready", "ready,public") for line in LINES]
        self.assertNotEqual(lines, LINES)
        check_same(self, str(read(lines)), "\n".join(LINES))

    def test_names_of_all_kinds(self):
        lines = [
            "table read", "flag hook", "table document", "link read read clear", "value bulk", "flag late",
            "document read", "read bulk read ~document.read", "document hook", "read late document",
            "hook set late late hook document", "hook set read late read document read",
            "hook put late hook document", "bulk document bulk",
        ]
        book = read(lines)
        check_same(self, str(book), "\n".join(lines))
        check_same(self, book.hooks[1].event, ("set", "document", "read"))

    def test_three_documents_four_reads_and_sixty_hooks(self):
        lines = SCHEMA + ["document a", "read age customer", "read age customer"] + [
            "document b", "read age customer", "document c", "read paid order",
        ] + ["hook put behind a customer"] * 60
        check_same(self, str(read(lines)), "\n".join(lines))


class Wrong(unittest.TestCase):
    def bad(self, at, lines):
        check_error(self, ("BadLine", at), read, lines)

    def with_line(self, at, line):
        """The lines with another one at this place."""
        return LINES[:at] + [line] + LINES[at + 1:]

    def test_no_text(self):
        for thing in (None, 1, True, [], (), {}, LINES, ("table a",)):
            check_error(self, ("BadLine", -1), Book.read, thing)

    def test_lines_of_the_schema(self):
        for at, line in (
            (0, "tabel line"), (1, "value"), (1, ""), (2, "link order nothing cascade"), (3, " flag ready"),
            (4, "flag ready"), (9, "table line"), (6, "link customer customer"), (9, "value age "),
        ):
            self.bad(at, self.with_line(at, line))
            self.bad(at, self.with_line(at, line)[:HEAD])
            self.bad(at, self.with_line(at, line)[:-1] + ["oops"])

    def test_no_lines_of_the_schema(self):
        self.bad(0, [""])
        self.bad(0, DOCUMENTS)
        self.bad(0, ["document sheet"])
        self.bad(0, ["document "])
        self.bad(0, DOCUMENTS + ["oops"])
        self.bad(0, HOOKS)

    def test_no_document(self):
        self.bad(HEAD, SCHEMA)
        self.bad(1, ["table a"])
        # Without a document all lines are those of the schema.
        self.bad(HEAD, SCHEMA + HOOKS)
        self.bad(HEAD, SCHEMA + ["document"])
        self.bad(HEAD, SCHEMA + [""])
        self.bad(HEAD, SCHEMA + [" document sheet"] + DOCUMENTS[1:2])

    def test_a_first_document_ends_the_schema(self):
        # The link of the schema leads to a table of a line that comes too late.
        self.bad(1, ["table a", "link b b clear", "document doc", "read f a", "table b"])
        self.bad(3, ["table a", "flag f", "document doc", "table b", "read f a"])
        self.bad(4, ["table a", "flag f", "document doc", "read f a", "table b"])

    def test_lines_of_documents(self):
        for line in (
            "document ", "document  sheet", "document sheet ", "document two words", "document Sheet", "document s1",
            "document abcdefghi", "document", "", "documents sheet", "table more", "read paid order ",
            "read  paid order",
        ):
            self.bad(HEAD + 3, self.with_line(HEAD + 3, line))
        for line in ("document ", "document  sheet", "document sheet ", "document Sheet", "document abcdefghi"):
            self.bad(HEAD, self.with_line(HEAD, line))

    def test_a_name_that_an_earlier_document_has(self):
        self.bad(HEAD + 3, self.with_line(HEAD + 3, "document sheet"))
        check_same(self, len(read(SCHEMA + ["document ages"] + DOCUMENTS[1:3]).documents), 1)

    def test_the_fourth_document(self):
        lines = SCHEMA + ["document a", "read age customer", "document b", "read age customer"]
        lines += ["document c", "read age customer"]
        check_same(self, len(read(lines).documents), 3)
        self.bad(len(lines), lines + ["document d", "read age customer"])
        self.bad(len(lines), lines + ["document d"])

    def test_documents_without_reads(self):
        self.bad(HEAD + 1, SCHEMA + ["document sheet", "document ages", "read age customer"])
        self.bad(HEAD + 1, SCHEMA + ["document sheet", "hook put behind sheet order"])
        self.bad(HEAD + 1, SCHEMA + ["document sheet", "bulk line many"])
        self.bad(HEAD + 1, SCHEMA + ["document sheet", ""])
        self.bad(HEAD + 4, SCHEMA + DOCUMENTS[:4] + HOOKS[:1])

    def test_texts_that_end_behind_a_document(self):
        self.bad(HEAD + 1, SCHEMA + ["document sheet"])
        self.bad(HEAD + 4, SCHEMA + DOCUMENTS[:4])
        check_same(self, len(read(SCHEMA + DOCUMENTS[:2]).documents), 1)

    def test_lines_of_reads(self):
        for line in (
            "read", "read ", "read many", "read many ", "read  order ~line.order", "read paid  order",
            "read paid order ", "read many order", "read customer order", "read age order",
            "read paid customer", "read paid order[ready]", "read paid order[paid,paid]", "read paid order[]",
            "Read paid order", "read Paid order", "read paid oops", "read paid order customer ~order.customer[oops]",
            "read paid order" + " ~line.order order" * 3, "reads paid order", "read oops order",
            "read many order ~line.order[ready,public] order[paid] ~line.order[ready,public]",
        ):
            for at in (HEAD + 1, HEAD + 2):
                self.bad(at, self.with_line(at, line))
        # Five steps and four flags are not too many.
        for line in (
            "read many order" + " ~line.order order" * 2 + " ~line.order",
            "read many order ~line.order[ready,public] order ~line.order[ready,public]",
        ):
            lines = SCHEMA + ["document sheet", line]
            check_same(self, len(read(lines).documents), 1)

    def test_reads_that_start_elsewhere(self):
        self.bad(HEAD + 2, self.with_line(HEAD + 2, "read age customer"))
        self.bad(HEAD + 1, SCHEMA + ["document sheet", "read paid ~order.customer"])
        check_same(self, read(SCHEMA + ["document sheet", "read age customer"]).documents[0].base, "customer")

    def test_the_fifth_read(self):
        lines = SCHEMA + DOCUMENTS + ["read age customer"]
        check_same(self, len(read(lines).documents[1]), 2)
        self.bad(len(lines), lines + ["read age customer"])
        four = SCHEMA + ["document a"] + ["read paid order"] * 4
        check_same(self, len(read(four).documents[0]), 4)
        self.bad(len(four), four + ["read paid order"])
        self.bad(len(four) + 1, four + ["document b", "read paid order"])

    def test_lines_of_hooks(self):
        for line in (
            "hook", "hook ", "hook set", "hook set many", "hook set many behind", "hook set many behind sheet",
            "hook set many behind sheet ", "hook put", "hook put behind", "hook put behind sheet",
            "hook put behind sheet ", "hook  put behind sheet line order", "hook put  behind sheet line order",
            "hook put behind sheet  line order", "hook put behind sheet line  order",
            "hook put behind sheet line order ",
            " hook put behind sheet line order", "hook put now sheet line order", "hook put Behind sheet line order",
            "hook putt behind sheet line order", "hook Put behind sheet line order",
            "hook oops behind sheet line order",
            "hook put many behind sheet line order", "hook remove many behind sheet line order",
            "hook set behind sheet line order", "hook set paid behind sheet line order",
            "hook set oops behind sheet line order", "hook set line behind sheet line order",
            "hook put behind oops line order", "hook put behind Sheet line order", "hook put behind sheet line",
            "hook put behind sheet line order customer", "hook put behind ages line order",
            "hook put behind sheet oops", "hook put behind sheet line[paid] order", "hook put behind sheet line oops",
            "hook put behind sheet line order" + " ~line.order order" * 4, "hooks put behind sheet line order",
            "Hook put behind sheet line order", "", "oops",
        ):
            for at in (FIRST_HOOK, FIRST_HOOK + 3, FIRST_BULK - 1):
                self.bad(at, self.with_line(at, line))
        eight = "hook put behind sheet order" + " ~line.order order" * 4
        check_same(self, len(read(SCHEMA + DOCUMENTS + [eight])), 1)

    def test_the_sixty_first_hook(self):
        lines = SCHEMA + DOCUMENTS + HOOKS[:1] * 60
        check_same(self, len(read(lines + BULK)), 60)
        self.bad(len(lines), lines + HOOKS[:1])
        self.bad(len(lines), lines + HOOKS[:1] + BULK)

    def test_lines_of_bulk_columns(self):
        for line in (
            "bulk", "bulk ", "bulk line", "bulk line ", "bulk  line many", "bulk line  many", "bulk line many ",
            " bulk line many", "bulk line many many", "bulk line paid", "bulk oops many", "bulk many line",
            "Bulk line many", "bulk line Many", "bulk line order order", "bulks line many", "", "oops",
        ):
            for at in (FIRST_BULK, FIRST_BULK + 1):
                self.bad(at, self.with_line(at, line))
        self.bad(FIRST_BULK + 1, self.with_line(FIRST_BULK + 1, BULK[0]))
        self.bad(FIRST_BULK + 2, LINES + BULK[1:])

    def test_lines_in_a_wrong_order(self):
        self.bad(FIRST_HOOK + 1, SCHEMA + DOCUMENTS + HOOKS[:1] + ["document more", "read age customer"])
        self.bad(FIRST_HOOK + 1, SCHEMA + DOCUMENTS + HOOKS[:1] + ["read age customer"])
        self.bad(FIRST_HOOK + 1, SCHEMA + DOCUMENTS + BULK[:1] + ["document more", "read age customer"])
        self.bad(FIRST_HOOK + 1, SCHEMA + DOCUMENTS + BULK[:1] + ["read age customer"])
        self.bad(FIRST_HOOK + 1, SCHEMA + DOCUMENTS + BULK[:1] + HOOKS)
        self.bad(FIRST_HOOK, SCHEMA + DOCUMENTS + ["table more"])
        self.bad(FIRST_HOOK, SCHEMA + DOCUMENTS + ["value more"])
        self.bad(len(LINES), LINES + ["document more", "read age customer"])

    def test_a_hook_for_a_document_of_a_later_line(self):
        self.bad(HEAD + 3, SCHEMA + DOCUMENTS[:3] + HOOKS[5:6] + DOCUMENTS[3:])

    def test_empty_lines(self):
        for at in range(HEAD, len(LINES)):
            self.bad(at, self.with_line(at, ""))
            self.bad(at, LINES[:at] + [""] + LINES[at:])
        self.bad(len(LINES), LINES + [""])

    def test_the_first_wrong_line(self):
        self.bad(1, ["table a", "oops", "document doc", "read oops a", "oops"])
        self.bad(2, ["table a", "flag f", "document Doc", "read oops a", "oops"])
        self.bad(3, ["table a", "flag f", "document doc", "read oops a", "oops"])
        self.bad(4, ["table a", "flag f", "document doc", "read f a", "oops", "oops"])


class Crooked(unittest.TestCase):
    def test_comes_last(self):
        lines = [
            "table cat", "link parent cat clear", "flag shown", "document tree", "read shown cat",
            "read shown cat parent", "hook put late tree cat",
        ]
        check_error(self, ("Crooked", ("tree", 1)), read, lines)
        check_error(self, ("BadLine", 7), read, lines + ["oops"])
        check_error(self, ("BadLine", 8), read, lines + ["bulk cat shown", "bulk cat shown"])
        check_error(self, ("Crooked", ("tree", 1)), read, lines + ["bulk cat shown"])
        check_error(self, ("Crooked", 1), read, lines[:5] + [
            "hook put late tree cat", "hook put behind tree cat parent",
        ])
        check_same(self, len(read(lines[:6] + ["hook put behind tree cat"])), 1)


if __name__ == "__main__":
    unittest.main()
