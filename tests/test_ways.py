import unittest

from owedrebuilds.schemas import Schema
from owedrebuilds.ways import Way
from helpers import check_error, check_same, error_of

SHOP = Schema("\n".join([
    "table product",
    "flag public",
    "value price",
    "table line",
    "link order order cascade",
    "link product product refuse",
    "flag ready",
    "flag public",
    "value many",
    "table order",
    "link customer customer refuse",
    "flag paid",
    "table customer",
    "flag active",
    "link friend customer clear",
    "value order",
]))
LONG = "customer[active] ~order.customer ~line.order[public,ready] product"
RING = "customer" + " friend" * 12


class Writing(unittest.TestCase):
    def bad(self, at, text):
        check_error(self, ("BadWay", at), Way, SHOP, text)

    def test_example_of_the_document(self):
        way = Way(SHOP, LONG)
        check_same(self, way.start, "customer")
        check_same(self, way.end, "product")
        check_same(self, way.tables, ("customer", "order", "line", "product"))
        check_same(self, way.asked, (("active",), (), ("public", "ready"), ()))
        check_same(self, way.steps, ("~order.customer", "~line.order", "product"))
        check_same(self, way.is_straight, True)
        check_same(self, len(way), 3)
        check_same(self, str(way), LONG)
        self.assertEqual(way.schema, SHOP)

    def test_no_step(self):
        way = Way(SHOP, "line")
        check_same(self, (way.start, way.end, way.tables), ("line", "line", ("line",)))
        check_same(self, (way.asked, way.steps, way.is_straight), (((),), (), True))
        check_same(self, (len(way), str(way)), (0, "line"))

    def test_no_step_with_flags(self):
        way = Way(SHOP, "line[ready]")
        check_same(self, (way.start, way.end, way.tables), ("line", "line", ("line",)))
        check_same(self, (way.asked, way.steps, str(way)), ((("ready",),), (), "line[ready]"))

    def test_one_step_along(self):
        way = Way(SHOP, "line order[paid]")
        check_same(self, (way.start, way.end, way.tables), ("line", "order", ("line", "order")))
        check_same(self, (way.asked, way.steps), (((), ("paid",)), ("order",)))
        check_same(self, (way.is_straight, len(way), str(way)), (True, 1, "line order[paid]"))

    def test_one_step_back(self):
        way = Way(SHOP, "order ~line.order")
        check_same(self, (way.start, way.end, way.tables), ("order", "line", ("order", "line")))
        check_same(self, (way.asked, way.steps), (((), ()), ("~line.order",)))
        check_same(self, (way.is_straight, len(way), str(way)), (True, 1, "order ~line.order"))

    def test_twelve_steps(self):
        way = Way(SHOP, RING)
        check_same(self, (way.start, way.end), ("customer", "customer"))
        check_same(self, way.tables, ("customer",) * 13)
        check_same(self, way.asked, ((),) * 13)
        check_same(self, way.steps, ("friend",) * 12)
        check_same(self, (way.is_straight, len(way), str(way)), (False, 12, RING))

    def test_straight_ways(self):
        for text, wanted in (
            ("customer friend", False),
            ("customer ~customer.friend", False),
            ("line order ~line.order", False),
            ("line order customer", True),
            ("line product ~line.product", False),
            ("order ~line.order product ~line.product", False),
        ):
            check_same(self, Way(SHOP, text).is_straight, wanted)

    def test_flags_in_either_order(self):
        for text in ("line[ready,public]", "line[public,ready]"):
            way = Way(SHOP, text)
            check_same(self, way.asked, (("public", "ready"),))
            check_same(self, str(way), "line[public,ready]")
        way = Way(SHOP, "product ~line.product[ready,public] order[paid]")
        check_same(self, str(way), "product ~line.product[public,ready] order[paid]")
        check_same(self, way.steps, ("~line.product", "order"))

    def test_no_string(self):
        for thing in (None, 0, 1, True, ["line"], ("line",), {"line": "line"}, [], {}):
            self.bad(-1, thing)

    def test_empty_words(self):
        self.bad(0, "")
        self.bad(0, " ")
        self.bad(0, " line")
        self.bad(1, "line ")
        self.bad(1, "line  order")
        self.bad(2, "line order ")
        self.bad(2, "line order  customer")

    def test_first_words(self):
        for word in (
            "lines", "Line", "lin", "~line", "order.line", "~line.order", "line.order", "public",
            "price", "[", "[]", "[ready]", "l", "table", "line,order", "line.",
        ):
            self.bad(0, word)
            self.bad(0, word + " order")

    def test_words_of_steps(self):
        for word in (
            "lines", "line", "~line", "~line.", "~.order", "~", "~~line.order", "line.order", ".",
            "~order.line", "~line.lines", "~lines.order", "~line.order.order", "~line,order",
            "~line.product", "~line.many", "~line.ready", "~customer.friend", "~Line.order",
            "paid", "friend", "order", "~order.customer", "~.", "~line order",
        ):
            self.bad(1, "order " + word)
            self.bad(1, "order " + word + " oops")
            self.bad(2, "line order " + word)

    def test_columns_that_are_no_links(self):
        self.bad(1, "customer order")
        self.bad(1, "customer active")
        self.bad(1, "line many")
        self.bad(1, "customer ~customer.order")
        self.bad(1, "customer ~customer.active")

    def test_a_link_of_another_table_is_not_at_this_place(self):
        self.bad(1, "customer customer")
        self.bad(1, "product order")
        self.bad(2, "line product order")
        self.bad(2, "line product ~line.order")

    def test_a_link_back_leads_to_this_table(self):
        self.bad(1, "customer ~line.order")
        self.bad(1, "line ~line.order")
        self.bad(1, "order ~order.customer")
        check_same(self, Way(SHOP, "order ~line.order").end, "line")

    def test_brackets(self):
        for brackets in (
            "[", "]", "[]", "[ready", "ready]", "[ready]]", "[[ready]", "[ready][public]", "(ready)",
            "[ready]x", "x[ready]", "[,]", "[ready,]", "[,ready]", "[ready,,public]", "[ready;public]",
            "[ready,ready]", "[ready,public,ready]", "[Ready]", "[read]", "[~ready]", "[ready.]",
            "{ready}", "[][ready]", "[ready][]", "[ready],", "[line.ready]",
        ):
            self.bad(0, "line" + brackets)
            self.bad(0, "line" + brackets + " order")
            self.bad(1, "order ~line.order" + brackets)
            self.bad(1, "order ~line.order" + brackets + " oops")

    def test_blanks_in_brackets_divide_words(self):
        self.bad(0, "line[ready, public]")
        self.bad(0, "line[ ready]")
        self.bad(0, "line[ready ]")
        self.bad(1, "line [ready]")

    def test_names_in_brackets_are_flags_of_the_table_there(self):
        self.bad(0, "line[many]")
        self.bad(0, "line[order]")
        self.bad(0, "line[line]")
        self.bad(0, "line[paid]")
        self.bad(1, "line order[ready]")
        self.bad(1, "line order[public]")
        self.bad(1, "order[paid] ~line.order[paid]")
        self.bad(0, "order[public]")

    def test_first_wrong_word(self):
        self.bad(0, "lines order oops")
        self.bad(1, "line oops oops")
        self.bad(2, "line order oops oops")
        self.bad(0, "line[oops] oops")
        self.bad(1, "line order[oops] customer")

    def test_thirteenth_and_fourteenth_word(self):
        self.assertEqual(len(Way(SHOP, RING).tables), 13)
        self.bad(13, RING + " friend")
        self.bad(13, RING + " friend friend")
        self.bad(13, RING + " oops")
        self.bad(13, RING + " ")
        self.bad(12, RING[:-1])
        self.bad(12, RING + "[oops]")
        self.bad(12, RING + "x friend")
        self.bad(3, "customer friend friend oops" + " friend" * 11)

    def test_other_line_feeds(self):
        self.bad(0, "line\norder")
        self.bad(1, "line order\n")

    def test_text_by_name(self):
        self.assertEqual(str(Way(schema=SHOP, text="line order")), "line order")
        self.assertEqual(error_of(Way, schema=SHOP, text=3), ("BadWay", -1))


class Of(unittest.TestCase):
    def test_words(self):
        way = Way.of(SHOP, "customer[active]", "~order.customer", "~line.order[ready,public]", "product")
        self.assertIsInstance(way, Way)
        check_same(self, str(way), LONG)
        check_same(self, str(Way.of(SHOP, "line")), "line")
        check_same(self, str(Way.of(SHOP, *RING.split(" "))), RING)

    def test_a_string_of_several_words(self):
        check_same(self, str(Way.of(SHOP, "line order", "customer")), "line order customer")

    def test_wrong_words(self):
        check_error(self, ("BadWay", 0), Way.of, SHOP)
        check_error(self, ("BadWay", 0), Way.of, SHOP, "")
        check_error(self, ("BadWay", 1), Way.of, SHOP, "line", "")
        check_error(self, ("BadWay", 1), Way.of, SHOP, "line", "line")
        check_error(self, ("BadWay", 2), Way.of, SHOP, "line", "order", "order")
        check_error(self, ("BadWay", 2), Way.of, SHOP, "line", "order ", "customer")
        check_error(self, ("BadWay", 13), Way.of, SHOP, "customer", *["friend"] * 13)

    def test_it_is_called_off_a_way_too(self):
        self.assertEqual(str(Way(SHOP, "line").of(SHOP, "order")), "order")


if __name__ == "__main__":
    unittest.main()
