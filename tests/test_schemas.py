import unittest

from owedrebuilds.schemas import Schema
from helpers import check_error, check_same

TEXT = "\n".join([
    "table order",
    "flag paid",
    "link buyer customer refuse",
    "table line",
    "value many",
    "link order order cascade",
    "link twin line clear",
    "table customer",
])

SIX = ["table a"] + ["value " + letter for letter in "uvwxyz"]


def lines(*rows):
    return "\n".join(rows)


class Reading(unittest.TestCase):
    def setUp(self):
        self.schema = Schema(TEXT)

    def test_tables(self):
        check_same(self, self.schema.tables, ("order", "line", "customer"))
        self.assertEqual(len(self.schema), 3)
        self.assertEqual(len(Schema("table a")), 1)

    def test_columns(self):
        check_same(self, self.schema.columns("order"), ("paid", "buyer"))
        check_same(self, self.schema.columns("line"), ("many", "order", "twin"))
        check_same(self, self.schema.columns("customer"), ())

    def test_kind(self):
        check_same(self, self.schema.kind("order", "paid"), "flag")
        check_same(self, self.schema.kind("order", "buyer"), "link")
        check_same(self, self.schema.kind("line", "many"), "value")

    def test_target(self):
        check_same(self, self.schema.target("order", "buyer"), "customer")
        check_same(self, self.schema.target("line", "order"), "order")
        check_same(self, self.schema.target("line", "twin"), "line")
        check_same(self, self.schema.target("order", "paid"), None)
        check_same(self, self.schema.target("line", "many"), None)

    def test_rule(self):
        check_same(self, self.schema.rule("order", "buyer"), "refuse")
        check_same(self, self.schema.rule("line", "order"), "cascade")
        check_same(self, self.schema.rule("line", "twin"), "clear")
        check_same(self, self.schema.rule("order", "paid"), None)
        check_same(self, self.schema.rule("line", "many"), None)

    def test_links_to(self):
        check_same(self, self.schema.links_to("order"), [("line", "order")])
        check_same(self, self.schema.links_to("line"), [("line", "twin")])
        check_same(self, self.schema.links_to("customer"), [("order", "buyer")])
        self.assertEqual(Schema("table a").links_to("a"), [])

    def test_links_to_goes_by_tables_and_columns(self):
        schema = Schema(lines(
            "table z", "link y m clear", "flag f", "link b m refuse",
            "table m", "link x m cascade", "link o z clear", "link a m clear",
            "table a", "link m m clear",
        ))
        wanted = [("z", "y"), ("z", "b"), ("m", "x"), ("m", "a"), ("a", "m")]
        check_same(self, schema.links_to("m"), wanted)
        check_same(self, schema.links_to("z"), [("m", "o")])

    def test_no_table(self):
        for table in ("nope", "", "Order", "order ", "paid"):
            check_error(self, ("NoTable", table), self.schema.columns, table)
            check_error(self, ("NoTable", table), self.schema.links_to, table)
            for method in (self.schema.kind, self.schema.target, self.schema.rule):
                check_error(self, ("NoTable", table), method, table, "paid")
                check_error(self, ("NoTable", table), method, table, "nope")

    def test_no_column(self):
        for method in (self.schema.kind, self.schema.target, self.schema.rule):
            for column in ("many", "", "order", "key"):
                check_error(self, ("NoColumn", "order", column), method, "order", column)

    def test_parameters_by_name(self):
        schema = Schema(text=TEXT)
        self.assertEqual(schema.columns(table="customer"), ())
        self.assertEqual(schema.kind(column="paid", table="order"), "flag")
        self.assertEqual(schema.target(column="buyer", table="order"), "customer")
        self.assertEqual(schema.rule(column="buyer", table="order"), "refuse")
        self.assertEqual(schema.links_to(table="line"), [("line", "twin")])

    def test_a_returned_list_is_new(self):
        self.schema.links_to("order").append("x")
        self.assertEqual(self.schema.links_to("order"), [("line", "order")])

    def test_str(self):
        check_same(self, str(self.schema), TEXT)
        check_same(self, str(Schema("table a\nflag b")), "table a\nflag b")

    def test_equal(self):
        self.assertTrue(self.schema == Schema(TEXT))
        self.assertFalse(self.schema != Schema(TEXT))
        self.assertFalse(Schema("table a\nflag b\nflag c") == Schema("table a\nflag c\nflag b"))
        self.assertTrue(Schema("table a") != Schema("table b"))
        for other in (TEXT, None, 3, ("order", "line", "customer"), [], {}):
            self.assertFalse(self.schema == other)
            self.assertTrue(self.schema != other)


class Containing(unittest.TestCase):
    def test_tables_and_columns(self):
        schema = Schema(TEXT)
        for thing in ("order", "line", "customer", ("order", "paid"), ("line", "order"),
                      ("line", "twin"), ("order", "buyer")):
            self.assertIs(thing in schema, True, thing)

    def test_other_values(self):
        schema = Schema(TEXT)
        for thing in ("paid", "", "Order", "order line", ("order", "many"), ("nope", "paid"),
                      ("order",), ("order", "paid", "paid"), (), ["order", "paid"], ["order"],
                      [], {}, {"order": "paid"}, None, True, False, 0, 1, (1, 2), (None, None),
                      ("order", None), (None, "paid"), ("order", ["paid"]), (["order"], "paid"),
                      ({}, {}), (("order", "paid"), "paid"), ("order", ("order", "paid")),
                      ("customer", ""), 10 ** 39):
            self.assertIs(thing in schema, False, thing)


class Limits(unittest.TestCase):
    def test_five_tables(self):
        five = ["table a", "table b", "table c", "table d", "table e"]
        self.assertEqual(Schema(lines(*five)).tables, ("a", "b", "c", "d", "e"))
        check_error(self, ("BadSchema", 5), Schema, lines(*five, "table f"))
        check_error(self, ("BadSchema", 6), Schema, lines(*five, "flag g", "table f", "flag h"))
        self.assertEqual(len(Schema(lines(*five, "flag f", "value g"))), 5)

    def test_six_columns(self):
        self.assertEqual(Schema(lines(*SIX)).columns("a"), ("u", "v", "w", "x", "y", "z"))
        for line in ("value g", "flag g", "link g a clear"):
            check_error(self, ("BadSchema", 7), Schema, lines(*SIX, line))
        both = Schema(lines(*SIX, "table b", *SIX[1:]))
        self.assertEqual(both.columns("b"), ("u", "v", "w", "x", "y", "z"))

    def test_words(self):
        for word in ("a", "abcdefgh", "z", "zzzzzzzz"):
            schema = Schema(lines("table " + word, "flag " + word, "link b " + word + " clear"))
            self.assertEqual(schema.tables, (word,))
            self.assertEqual(schema.columns(word), (word, "b"))
        for word in ("abcdefghi", "A", "aB", "a1", "1", "a_b", "a-b", "", "a.b", "`", "{", "~a"):
            check_error(self, ("BadSchema", 0), Schema, "table " + word)
            check_error(self, ("BadSchema", 1), Schema, "table a\nvalue " + word)
            check_error(self, ("BadSchema", 1), Schema, "table a\nflag " + word)
            check_error(self, ("BadSchema", 1), Schema, "table a\nlink " + word + " a clear")
            check_error(self, ("BadSchema", 1), Schema, "table a\nlink b " + word + " clear")

    def test_barred_names_of_columns(self):
        for word in ("key", "self", "table"):
            check_error(self, ("BadSchema", 1), Schema, "table a\nvalue " + word)
            check_error(self, ("BadSchema", 1), Schema, "table a\nflag " + word)
            check_error(self, ("BadSchema", 1), Schema, "table a\nlink " + word + " a clear")
            schema = Schema("table " + word + "\nlink b " + word + " clear")
            self.assertEqual(schema.target(word, "b"), word)

    def test_other_words_are_free(self):
        schema = Schema("table value\nflag flag\nvalue value\nlink link value clear\nflag keys")
        self.assertEqual(schema.columns("value"), ("flag", "value", "link", "keys"))
        self.assertEqual(schema.kind("value", "flag"), "flag")
        self.assertEqual(schema.kind("value", "link"), "link")

    def test_two_tables_may_have_columns_of_one_name(self):
        schema = Schema("table a\nflag c\ntable b\nvalue c\nflag a")
        self.assertEqual(schema.kind("a", "c"), "flag")
        self.assertEqual(schema.kind("b", "c"), "value")

    def test_each_rule(self):
        for rule in ("refuse", "clear", "cascade"):
            self.assertEqual(Schema("table a\nlink b a " + rule).rule("a", "b"), rule)
        for rule in ("", "Clear", "set", "restrict", "clears", "None", "a"):
            check_error(self, ("BadSchema", 1), Schema, "table a\nlink b a " + rule)


class WrongLines(unittest.TestCase):
    def test_no_string(self):
        for thing in (None, 0, 1, True, False, [], ["table a"], ("table a",), {}, {"table": "a"}):
            check_error(self, ("BadSchema", -1), Schema, thing)

    def test_empty_lines(self):
        check_error(self, ("BadSchema", 0), Schema, "")
        check_error(self, ("BadSchema", 0), Schema, "\n")
        check_error(self, ("BadSchema", 0), Schema, "\ntable a")
        check_error(self, ("BadSchema", 1), Schema, "table a\n")
        check_error(self, ("BadSchema", 1), Schema, "table a\n\nflag b")
        check_error(self, ("BadSchema", 2), Schema, "table a\nflag b\n")

    def test_spaces(self):
        for line in (" ", " flag b", "flag b ", "flag  b", " link b a clear", "link b a clear ",
                     "link  b a clear", "link b  a clear", "link b a  clear", " value b", "value  b",
                     "value b ", "value\tb"):
            check_error(self, ("BadSchema", 1), Schema, "table a\n" + line + "\nflag c")
        for line in (" table a", "table a ", "table  a", "  table a"):
            check_error(self, ("BadSchema", 0), Schema, line)

    def test_other_numbers_of_words(self):
        for line in ("flag", "flag b c", "value", "value b 3", "link", "link b", "link b a",
                     "link b a clear clear", "table", "table b c", "flag b a clear", "value b a clear"):
            check_error(self, ("BadSchema", 1), Schema, "table a\n" + line)

    def test_other_first_words(self):
        for line in ("text b", "Flag b", "flags b", "b", "document b", "links b a clear",
                     "Table b", "tables b", "column b"):
            check_error(self, ("BadSchema", 1), Schema, "table a\n" + line)

    def test_a_column_ahead_of_the_first_table(self):
        for line in ("flag b", "value b", "link b a clear"):
            check_error(self, ("BadSchema", 0), Schema, line + "\ntable a")

    def test_a_name_that_an_earlier_table_has(self):
        check_error(self, ("BadSchema", 1), Schema, "table a\ntable a")
        check_error(self, ("BadSchema", 3), Schema, "table a\ntable b\nflag c\ntable a\nflag d")

    def test_a_name_that_an_earlier_column_has(self):
        for first in ("flag b", "value b", "link b a clear"):
            for line in ("flag b", "value b", "link b a clear"):
                check_error(self, ("BadSchema", 3), Schema, lines("table a", first, "flag c", line))

    def test_links_to_tables_that_are_none(self):
        check_error(self, ("BadSchema", 1), Schema, "table a\nlink b c clear")
        check_error(self, ("BadSchema", 2), Schema, "table a\nflag c\nlink b c clear")
        check_error(self, ("BadSchema", 1), Schema, "table a\nlink b b clear\nflag b")

    def test_links_to_tables_of_later_lines(self):
        schema = Schema("table a\nlink b c clear\ntable c")
        self.assertEqual(schema.target("a", "b"), "c")
        check_same(self, schema.links_to("c"), [("a", "b")])

    def test_a_table_counts_for_links_where_its_line_is_wrong(self):
        six = lines("table a", "link x f clear", "table b", "table c", "table d", "table e", "table f")
        check_error(self, ("BadSchema", 6), Schema, six)
        check_error(self, ("BadSchema", 3), Schema, lines("table a", "link x b clear", "table b", "table a"))

    def test_a_line_with_more_spaces_or_no_word_is_no_table_for_links(self):
        for line in ("table  c", " table c", "table c ", "table c d", "table", "Table c", "tablec"):
            check_error(self, ("BadSchema", 1), Schema, lines("table a", "link b c clear", line))
        check_error(self, ("BadSchema", 1), Schema, lines("table a", "link b C clear", "table C"))
        long = "abcdefghi"
        check_error(self, ("BadSchema", 1), Schema, lines("table a", "link b " + long + " clear", "table " + long))

    def test_the_first_wrong_line_counts(self):
        check_error(self, ("BadSchema", 2), Schema, lines("table a", "flag b", "flag b", "", "flag"))
        check_error(self, ("BadSchema", 1), Schema, lines("table a", "link b c clear", "table a"))
        check_error(self, ("BadSchema", 0), Schema, lines("flag a", "flag a"))

    def test_the_last_line_of_a_long_text(self):
        rows = []
        for table in "abcde":
            rows.append("table " + table)
            rows.extend("value " + letter for letter in "uvwxyz")
        self.assertEqual(len(Schema(lines(*rows))), 5)
        check_error(self, ("BadSchema", 35), Schema, lines(*rows, "value t"))
        check_error(self, ("BadSchema", 35), Schema, lines(*rows, ""))


if __name__ == "__main__":
    unittest.main()
