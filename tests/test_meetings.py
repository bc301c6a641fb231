import random
import unittest

from owedrebuilds.books import Book
from owedrebuilds.desks import owed_by
from owedrebuilds.hooks import Hook
from owedrebuilds.scenes import Scene, cover, meetings
from owedrebuilds.schemas import Schema
from owedrebuilds.ways import Way
from helpers import check_same
from models import meetings_by_words, seen
from samples import CHAIN, PAIR, RING, ROAD, random_document, random_hook

CAT = Schema("table cat\nlink parent cat clear\nflag shown")
ROADS = Schema("\n".join([
    "table line", "value many", "link order order clear", "flag ready",
    "table order", "flag paid", "link friend order clear",
]))
SET_PARENT, SET_SHOWN = ("set", "cat", "parent"), ("set", "cat", "shown")


def rows(*cats):
    return [("cat", key, {"parent": parent, "shown": shown}) for key, (parent, shown) in enumerate(cats, 1)]


def hook(text, event, look, schema=CAT):
    return Hook(event, look, Way(schema, text), "tree")


class ByHand(unittest.TestCase):
    def check_meetings(self, one, wanted):
        """wanted: side, P, deed, changed, key, ahead, behind of each."""
        head = ("tree", None, one.event)
        check_same(self, [seen(scene) for scene in meetings(one)], [(*head, *parts) for parts in wanted])

    def test_a_link_that_is_not_set(self):
        bare = rows((None, False), (None, False))
        led = rows((2, False), (None, False))
        on = ("on", (), ("set", "cat", 1, "parent", 2), ("cat", 1), 1, bare, led)
        off = ("off", (), ("set", "cat", 1, "parent", None), ("cat", 1), 1, led, bare)
        # The one whose near store is U is first.
        self.check_meetings(hook("cat", SET_PARENT, "ahead"), [on, off])
        self.check_meetings(hook("cat", SET_PARENT, "behind"), [off, on])
        self.check_meetings(hook("cat", SET_PARENT, "late"), [off, on])

    def test_a_link_that_is_set(self):
        led, bare = rows((2, False), (None, False)), rows((None, False), (None, False))
        way = "cat parent"
        self.check_meetings(hook(way, SET_PARENT, "ahead"), [
            ("off", (), ("set", "cat", 1, "parent", None), ("cat", 1), 2, led, bare),
        ])
        for look in ("behind", "late"):
            self.check_meetings(hook(way, SET_PARENT, look), [
                ("on", (), ("set", "cat", 1, "parent", 2), ("cat", 1), 2, bare, led),
            ])

    def test_a_link_that_another_row_has_set(self):
        start = rows((None, False), (1, False))
        more = [("cat", 3, {"parent": None, "shown": False})]
        bare, led = start + more, rows((3, False), (1, False)) + more
        changed = ("cat", 1)
        first = ("on", (), ("set", "cat", 1, "parent", 3), changed, 2, bare, led)
        second = ("off", (), ("set", "cat", 1, "parent", None), changed, 2, led, bare)
        loop = ("off", (2,), ("set", "cat", 1, "parent", None), changed, 1, rows((1, False)), rows((None, False)))
        self.check_meetings(hook("cat ~cat.parent", SET_PARENT, "ahead"), [first, second, loop])
        loop = ("on", (2,), ("set", "cat", 1, "parent", 1), changed, 1, rows((None, False)), rows((1, False)))
        for look in ("behind", "late"):
            self.check_meetings(hook("cat ~cat.parent", SET_PARENT, look), [second, first, loop])

    def test_a_flag_that_is_not_set(self):
        off, on = rows((None, False)), rows((None, True))
        to_on = ("on", (), ("set", "cat", 1, "shown", True), ("cat", 1), 1, off, on)
        to_off = ("off", (), ("set", "cat", 1, "shown", False), ("cat", 1), 1, on, off)
        self.check_meetings(hook("cat", SET_SHOWN, "ahead"), [to_on, to_off])
        self.check_meetings(hook("cat", SET_SHOWN, "behind"), [to_off, to_on])
        self.check_meetings(hook("cat", SET_SHOWN, "late"), [to_off, to_on])

    def test_a_flag_that_is_set(self):
        off, on = rows((None, False)), rows((None, True))
        self.check_meetings(hook("cat[shown]", SET_SHOWN, "ahead"), [
            ("off", (), ("set", "cat", 1, "shown", False), ("cat", 1), 1, on, off),
        ])
        for look in ("behind", "late"):
            self.check_meetings(hook("cat[shown]", SET_SHOWN, look), [
                ("on", (), ("set", "cat", 1, "shown", True), ("cat", 1), 1, off, on),
            ])

    def test_the_example_of_point_34(self):
        for look in ("ahead", "behind"):
            found = [seen(scene) for scene in meetings(hook("cat ~cat.parent[shown]", SET_SHOWN, look))]
            check_same(self, [(scene[3], scene[4], scene[7]) for scene in found], [
                ("on" if look == "ahead" else "off", (), 2), ("off" if look == "ahead" else "on", (), 2),
                ("off" if look == "ahead" else "on", (2,), 1),
            ])
            alone = [scene[8:] for scene in found if scene[4] == (2,)]
            both = (rows((1, True)), rows((1, False)))
            check_same(self, alone, [both if look == "ahead" else both[::-1]])

    def test_sets_of_other_rows(self):
        one = hook("cat[shown] parent[shown] parent[shown]", SET_SHOWN, "ahead")
        check_same(self, [(scene.folded, len(scene.ahead()), scene.key, scene.deed) for scene in meetings(one)], [
            ((), 3, 3, ("set", "cat", 1, "shown", False)),
            ((2,), 1, 1, ("set", "cat", 1, "shown", False)),
            ((2, 3), 1, 1, ("set", "cat", 1, "shown", False)),
            ((3,), 2, 1, ("set", "cat", 1, "shown", False)),
        ])

    def line(self, many=0, order=1, ready=False, key=1):
        return ("line", key, {"many": many, "order": order, "ready": ready})

    def order(self, key):
        return ("order", key, {"paid": False, "friend": None})

    def test_a_value(self):
        for look in ("ahead", "behind", "late"):
            one = hook("line order", ("set", "line", "many"), look, ROADS)
            self.check_meetings(one, [
                ("other", (), ("set", "line", 1, "many", 1), ("line", 1), 2,
                 [self.line(0, 2), self.order(2)], [self.line(1, 2), self.order(2)]),
            ])

    def test_a_value_with_other_rows(self):
        one = hook("line order ~line.order", ("set", "line", "many"), "behind", ROADS)
        check_same(self, [(scene.side, scene.folded, scene.key) for scene in meetings(one)], [("other", (), 3)])

    def test_puts(self):
        for look in ("behind", "late"):
            one = hook("line[ready] order", ("put", "line"), look, ROADS)
            cells = {"many": 0, "order": 2, "ready": True}
            self.check_meetings(one, [
                ("on", (), ("put", "line", 1, cells), ("line", 1), 2,
                 [self.order(2)], [self.line(0, 2, True), self.order(2)]),
            ])
            # The row of the copy itself.
            self.check_meetings(hook("cat", ("put", "cat"), look), [
                ("on", (), ("put", "cat", 1, {"parent": None, "shown": False}), ("cat", 1), 1, [], rows((None, False))),
            ])
            self.check_meetings(hook("cat ~cat.parent", ("put", "cat"), look), [])
        self.check_meetings(hook("line order", ("put", "line"), "ahead", ROADS), [])
        self.check_meetings(hook("cat", ("put", "cat"), "ahead"), [])

    def test_removals(self):
        self.check_meetings(hook("cat parent", ("remove", "cat"), "ahead"), [
            ("off", (), ("remove", "cat", 1), ("cat", 1), 2,
             rows((2, False), (None, False)), rows((2, False), (None, False))[1:]),
        ])
        for look in ("behind", "late"):
            self.check_meetings(hook("cat parent", ("remove", "cat"), look), [])
        for text in ("cat", "cat[shown]", "cat ~cat.parent", "cat parent ~cat.parent parent ~cat.parent parent"):
            found = [scene.key for scene in meetings(hook(text, ("remove", "cat"), "ahead"))]
            check_same(self, found, [2] if text.count("~") == 2 else [])

    def test_the_copy_of_the_changed_row(self):
        # The way goes away and back along a link of another row.
        one = hook("line order[paid]", ("remove", "line"), "ahead", ROADS)
        check_same(self, [scene.key for scene in meetings(one)], [2])
        back = Hook(("remove", "order"), "ahead", Way(ROADS, "order friend ~order.friend"), "tree")
        check_same(self, [scene.key for scene in meetings(back)], [3])

    def test_a_link_to_another_table(self):
        one = hook("line", ("set", "line", "order"), "behind", ROADS)
        bare, led = [self.line(0, None), self.order(2)], [self.line(0, 2), self.order(2)]
        self.check_meetings(one, [
            ("off", (), ("set", "line", 1, "order", None), ("line", 1), 1, led, bare),
            ("on", (), ("set", "line", 1, "order", 2), ("line", 1), 1, bare, led),
        ])

    def test_the_greatest_key_of_any_table(self):
        one = Hook(("set", "order", "friend"), "ahead", Way(ROADS, "order ~line.order"), "tree")
        check_same(self, [scene.deed for scene in meetings(one)], [
            ("set", "order", 1, "friend", 3), ("set", "order", 1, "friend", None),
        ])


class ByTheWords(unittest.TestCase):
    def hooks(self, many):
        source = random.Random(33)
        for at in range(many):
            document = random_document(source, (RING, CHAIN, PAIR, ROAD)[at % 4], 2, 1)
            yield document, random_hook(source, document, 8 if at % 5 else 4, ("ahead", "behind", "late"))

    def test_random_hooks(self):
        many = 0
        for _, one in self.hooks(300):
            found = [seen(scene) for scene in meetings(hook=one)]
            check_same(self, found, list(meetings_by_words(one)))
            many += len(found)
        self.assertGreater(many, 300)

    def test_each_meeting_is_one(self):
        for document, one in self.hooks(100):
            book = Book([document], []).plus(one) if one.look != "late" or self.is_straight(document, one) else None
            for scene in meetings(one):
                self.assertIsInstance(scene, Scene)
                done = scene.ahead()
                check_same(self, len(done.apply(scene.deed)), 1)
                check_same(self, done.rows(), scene.behind().rows())
                self.assertIsNotNone(cover(scene, one))
                if book:
                    self.assertIn((scene.document, scene.key), list(owed_by(book, scene.ahead(), scene.deed)))

    def is_straight(self, document, one):
        return one.way.is_straight and all(way.is_straight for way, _ in document.reads)

    def test_stores_are_new(self):
        for scene in meetings(hook("cat ~cat.parent", SET_PARENT, "ahead")):
            before = seen(scene)
            scene.ahead().change("cat", 1, "shown", True)
            scene.behind().change("cat", 1, "shown", True)
            check_same(self, seen(scene), before)

    def test_eight_steps_with_flags_everywhere(self):
        one = hook("cat[shown]" + " ~cat.parent[shown]" * 8, SET_SHOWN, "behind")
        found = list(meetings(one))
        check_same(self, len(found), 2 ** 8)
        check_same(self, [scene.folded for scene in found], sorted(scene.folded for scene in found))
        check_same(self, len(list(meetings(hook("cat" + " ~cat.parent" * 8, SET_PARENT, "ahead")))), 2 ** 8 + 1)


if __name__ == "__main__":
    unittest.main()
