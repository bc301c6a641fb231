import unittest

from owedrebuilds.hooks import Hook, Look
from owedrebuilds.schemas import Schema
from owedrebuilds.stores import Store
from owedrebuilds.ways import Way
from helpers import all_trails, check_error, check_same

SHOP = Schema("\n".join([
    "table line",
    "value many",
    "link order order cascade",
    "flag ready",
    "flag public",
    "table order",
    "link customer customer clear",
    "flag paid",
    "table customer",
    "value age",
]))
RING = Schema("table cat\nvalue name\nlink parent cat clear\nflag shown")
SET = ("set", "line", "many")
UP = Way(SHOP, "line[ready] order customer")


def shop(text):
    return Way(SHOP, text)


def ring(text):
    return Way(RING, text)


def store():
    return Store(SHOP, [
        ("customer", 5, {}),
        ("customer", 6, {}),
        ("order", 1, {"customer": 6, "paid": True}),
        ("order", 2, {"customer": 5}),
        ("order", 3, {"customer": 6}),
        ("line", 10, {"order": 2, "ready": True}),
        ("line", 9, {"order": 1, "ready": True}),
        ("line", 8, {"order": 1}),
    ])


class Looks(unittest.TestCase):
    def test_values(self):
        check_same(self, (Look.AHEAD, Look.BEHIND, Look.LATE), ("ahead", "behind", "late"))


class Making(unittest.TestCase):
    def bad(self, what, *given):
        check_error(self, ("BadHook", what), Hook, *given)

    def test_attributes(self):
        for event in (SET, ("put", "line"), ("remove", "line"), ("set", "line", "order"), ("set", "line", "ready")):
            for look in ("ahead", "behind", "late"):
                hook = Hook(event, look, UP, "sheet")
                check_same(self, (hook.event, hook.look, hook.document), (event, look, "sheet"))
                self.assertIsInstance(hook.way, Way)
                check_same(self, str(hook.way), str(UP))
                self.assertEqual(hook.way, UP)

    def test_by_name(self):
        hook = Hook(document="sheet", way=UP, look=Look.LATE, event=SET)
        check_same(self, (hook.event, hook.look, hook.document), (SET, "late", "sheet"))

    def test_ways(self):
        for thing in (None, 0, True, "line order", ("line",), [], {}, "", Look.LATE):
            self.bad("way", SET, "late", thing, "sheet")

    def test_eight_and_nine_steps(self):
        event = ("set", "cat", "name")
        for many in (0, 1, 7, 8):
            check_same(self, len(Hook(event, "late", ring("cat" + " parent" * many), "sheet").way), many)
        for many in (9, 10, 12):
            self.bad("way", event, "late", ring("cat" + " parent" * many), "sheet")

    def test_any_number_of_flags(self):
        way = ring("cat[shown]" + " parent[shown]" * 8)
        check_same(self, str(Hook(("put", "cat"), "behind", way, "sheet").way), str(way))

    def test_events(self):
        for event in (
            None, 1, True, "put", "set", "remove", "line", (), ("put",), ("remove",), ("set",), ("set", "line"),
            ("put", "order"), ("remove", "order"), ("set", "order", "paid"), ("set", "line", "paid"),
            ("set", "line", "lines"), ("set", "line", "line"), ("set", "line", ""), ("set", "line", None),
            ("set", "line", 1), ("set", "line", ["many"]), ("set", "line", ("many",)), ("set", "line", {}),
            ("set", "line", "many", "ready"), ("put", "line", "many"), ("remove", "line", "many"),
            ["put", "line"], ["set", "line", "many"], ("Put", "line"), ("puts", "line"), ("line", "put"),
            ("bulk", "line", "many"), ("bulk", "line"), ("put", None), ("put", ["line"]), (None, "line"),
            ("set", "many", "line"), {"put": "line"}, ("put", ("line",)), [], {}, ("put", "customer"),
            (["put"], "line"), ("set", ("line", "many")), ("set line", "many"), (("put", "line"),),
            ("put", "line", None), ("set", None, "many"), ("set", "lines", "many"), (True, "line", "many"),
        ):
            self.bad("event", event, "late", UP, "sheet")

    def test_the_event_is_one_of_the_start_of_the_way(self):
        for event in (("set", "order", "paid"), ("put", "order"), ("remove", "order")):
            check_same(self, Hook(event, "late", shop("order customer"), "sheet").event, event)
            self.bad("event", event, "late", shop("line order"), "sheet")

    def test_looks(self):
        for look in (None, 0, True, "", "Ahead", "AHEAD", "before", "ahead ", ["ahead"], ("late",), {}, []):
            self.bad("look", SET, look, UP, "sheet")

    def test_documents(self):
        for name in ("a", "abcdefgh", "line", "key", "self", "table", "late"):
            check_same(self, Hook(SET, "late", UP, name).document, name)
        for name in (None, 0, True, "", "abcdefghi", "Sheet", "a b", "a1", ["sheet"], ("sheet",), {}, []):
            self.bad("document", SET, "late", UP, name)

    def test_which_error_comes_first(self):
        long = ring("cat" + " parent" * 9)
        self.bad("way", None, None, None, None)
        self.bad("way", SET, "late", None, "sheet")
        self.bad("way", None, None, long, None)
        self.bad("event", None, None, UP, None)
        self.bad("event", None, "late", UP, "")
        self.bad("look", SET, None, UP, None)
        self.bad("look", SET, None, UP, "sheet")
        self.bad("document", SET, "late", UP, None)


class Meets(unittest.TestCase):
    def test_keys(self):
        hook = Hook(SET, "ahead", UP, "sheet")
        check_same(self, hook(store(), 9), [6])
        check_same(self, hook(store(), 10), [5])
        check_same(self, hook(store(), 8), [])
        check_same(self, hook(store=store(), key=9), [6])

    def test_several(self):
        hook = Hook(("set", "customer", "age"), "behind", shop("customer ~order.customer"), "sheet")
        check_same(self, hook(store(), 6), [1, 3])
        hook = Hook(("set", "line", "order"), "late", shop("line order customer ~order.customer"), "sheet")
        check_same(self, hook(store(), 8), [1, 3])

    def test_no_step(self):
        hook = Hook(("put", "order"), "behind", shop("order[paid]"), "sheet")
        check_same(self, hook(store(), 1), [1])
        check_same(self, hook(store(), 2), [])

    def test_rows_that_are_not_there(self):
        for event in (SET, ("put", "line"), ("remove", "line")):
            for look in ("ahead", "behind", "late"):
                hook = Hook(event, look, UP, "sheet")
                for key in (7, 1, 5, 0, -1, 10 ** 10):
                    check_same(self, hook(store(), key), [])

    def test_behind_deeds(self):
        rows = store()
        hook = Hook(SET, "behind", UP, "sheet")
        rows.change("order", 1, "customer", 5)
        check_same(self, hook(rows, 9), [5])
        rows.remove("line", 9)
        check_same(self, hook(rows, 9), [])
        rows.put("line", 9, order=3, ready=True)
        check_same(self, hook(rows, 9), [6])
        rows.remove("customer", 6)
        check_same(self, hook(rows, 9), [])

    def test_the_look_does_not_matter_here(self):
        for event in (SET, ("put", "line"), ("remove", "line")):
            for look in ("ahead", "behind", "late"):
                check_same(self, Hook(event, look, UP, "sheet")(store(), 9), [6])

    def test_what_is_returned_is_new(self):
        rows = store()
        hook = Hook(SET, "ahead", UP, "sheet")
        hook(rows, 9).append(5)
        check_same(self, hook(rows, 9), [6])

    def test_eight_steps(self):
        # Each step leads from each row to all forty by way of row 7.
        rows = Store(RING, [("cat", key, {"parent": 7}) for key in range(1, 41)])
        way = ring("cat" + " parent ~cat.parent" * 4)
        hook = Hook(("set", "cat", "name"), "behind", way, "sheet")
        check_same(self, hook(rows, 30), list(range(1, 41)))
        rows = Store(RING, [("cat", key, {"parent": 7}) for key in (7, 8, 9)])
        found = [trail[-1] for trail in all_trails(way, rows) if trail[0] == 8]
        check_same(self, hook(rows, 8), sorted(set(found)))


class Answers(unittest.TestCase):
    CHANGES = [
        ("set", "line", 9, "many", 0, 1),
        ("set", "line", 9, "order", 1, None),
        ("set", "line", 9, "ready", True, False),
        ("put", "line", 7, {"many": 0, "order": None, "ready": False, "public": False}),
        ("remove", "line", 7, {"many": 0, "order": None, "ready": False, "public": False}),
        ("set", "order", 1, "paid", True, False),
        ("put", "order", 7, {"customer": None, "paid": False}),
        ("remove", "order", 7, {"customer": None, "paid": False}),
        ("set", "customer", 5, "age", 0, 1),
    ]

    def answered(self, event, start):
        """The numbers of the changes that a hook of this event answers, with any look."""
        hooks = [Hook(event, look, shop(start), "sheet") for look in ("ahead", "behind", "late")]
        found = [[hook.answers(change) for change in self.CHANGES] for hook in hooks]
        self.assertEqual(found[0], found[1])
        self.assertEqual(found[0], found[2])
        self.assertTrue(all(isinstance(answer, bool) for answer in found[0]))
        return [at for at, answer in enumerate(found[0]) if answer]

    def test_each_event(self):
        for event, start, wanted in (
            (("set", "line", "many"), "line", [0]),
            (("set", "line", "order"), "line order", [1]),
            (("set", "line", "ready"), "line", [2]),
            (("set", "line", "public"), "line", []),
            (("put", "line"), "line order", [3]),
            (("remove", "line"), "line order", [4]),
            (("set", "order", "paid"), "order", [5]),
            (("set", "order", "customer"), "order", []),
            (("put", "order"), "order", [6]),
            (("remove", "order"), "order", [7]),
            (("set", "customer", "age"), "customer", [8]),
            (("put", "customer"), "customer", []),
            (("remove", "customer"), "customer", []),
        ):
            self.assertEqual(self.answered(event, start), wanted)

    def test_the_same_column_of_another_table(self):
        schema = Schema("table a\nvalue x\ntable b\nvalue x")
        hook = Hook(("set", "a", "x"), "ahead", Way(schema, "a"), "sheet")
        check_same(self, hook.answers(("set", "a", 1, "x", 0, 1)), True)
        check_same(self, hook.answers(("set", "b", 1, "x", 0, 1)), False)

    def test_the_flags_of_the_way_do_not_matter(self):
        hook = Hook(SET, "ahead", shop("line[ready]"), "sheet")
        check_same(self, hook.answers(change=("set", "line", 8, "many", 0, 1)), True)

    def test_changes_that_a_store_makes(self):
        rows = store()
        hook = Hook(("remove", "line"), "behind", UP, "sheet")
        changes = rows.changes(("remove", "order", 1))
        check_same(self, [hook.answers(change) for change in changes], [True, True, False])
        hook = Hook(("set", "order", "customer"), "behind", shop("order"), "sheet")
        changes = rows.changes(("remove", "customer", 6))
        check_same(self, [hook.answers(change) for change in changes], [True, True, False])


class Looking(unittest.TestCase):
    def test_another_look(self):
        for event in (SET, ("put", "line"), ("remove", "line")):
            hook = Hook(event, "ahead", UP, "sheet")
            for look in ("ahead", "behind", "late"):
                other = hook.looking(look)
                self.assertIsInstance(other, Hook)
                check_same(self, (other.event, other.look, other.document), (event, look, "sheet"))
                check_same(self, str(other.way), str(UP))
                check_same(self, hook == other, look == "ahead")
            check_same(self, hook.look, "ahead")
        check_same(self, Hook(SET, "ahead", UP, "sheet").looking(look=Look.LATE).look, "late")


class Equal(unittest.TestCase):
    def equal(self, one, other, wanted):
        check_same(self, one == other, wanted)
        check_same(self, other == one, wanted)
        check_same(self, one != other, not wanted)

    def test_each_part_counts(self):
        hook = Hook(SET, "ahead", UP, "sheet")
        self.equal(hook, Hook(SET, "ahead", UP, "sheet"), True)
        self.equal(hook, Hook(("set", "line", "order"), "ahead", UP, "sheet"), False)
        self.equal(hook, Hook(("put", "line"), "ahead", UP, "sheet"), False)
        self.equal(hook, Hook(SET, "behind", UP, "sheet"), False)
        self.equal(hook, Hook(SET, "ahead", UP, "sheets"), False)
        self.equal(hook, Hook(SET, "ahead", shop("line order customer"), "sheet"), False)
        self.equal(hook, Hook(SET, "ahead", shop("line[ready] order"), "sheet"), False)
        self.equal(Hook(("put", "line"), "late", UP, "a"), Hook(("remove", "line"), "late", UP, "a"), False)

    def test_equal_ways_in_other_words(self):
        one = Hook(SET, "late", shop("line order"), "sheet")
        other = Hook(SET, "late", shop("line order ~line.order order"), "sheet")
        self.equal(one, other, True)
        self.assertNotEqual(str(one), str(other))
        one = Hook(SET, "late", shop("line[ready,public]"), "sheet")
        self.equal(one, Hook(SET, "late", shop("line[public,ready]"), "sheet"), True)

    def test_other_schemas(self):
        hook = Hook(SET, "ahead", shop("line"), "sheet")
        self.equal(hook, Hook(SET, "ahead", Way(Schema(str(SHOP)), "line"), "sheet"), True)
        longer = Schema(str(SHOP) + "\ntable more")
        self.equal(hook, Hook(SET, "ahead", Way(longer, "line"), "sheet"), False)

    def test_nothing_of_another_class(self):
        hook = Hook(SET, "ahead", UP, "sheet")
        for thing in (None, 0, str(hook), UP, SET, (SET, "ahead", UP, "sheet"), [], "sheet"):
            self.equal(hook, thing, False)


class Lines(unittest.TestCase):
    def test_each_event_and_look(self):
        for event, words in (
            (SET, "set many"),
            (("set", "line", "order"), "set order"),
            (("put", "line"), "put"),
            (("remove", "line"), "remove"),
        ):
            for look in ("ahead", "behind", "late"):
                hook = Hook(event, look, UP, "sheet")
                check_same(self, str(hook), f"hook {words} {look} sheet line[ready] order customer")

    def test_a_way_without_steps(self):
        check_same(self, str(Hook(("put", "order"), "behind", shop("order"), "o")), "hook put behind o order")
        check_same(
            self, str(Hook(("set", "order", "paid"), "late", shop("order[paid]"), "o")),
            "hook set paid late o order[paid]",
        )

    def test_flags_in_ascending_order(self):
        hook = Hook(SET, "ahead", shop("line[ready,public] order"), "sheet")
        check_same(self, str(hook), "hook set many ahead sheet line[public,ready] order")


if __name__ == "__main__":
    unittest.main()
