import random
import unittest

from owedrebuilds.books import Book
from owedrebuilds.hooks import Hook
from owedrebuilds.scenes import Scene, cover, scenes
from owedrebuilds.stores import Store
from owedrebuilds.ways import Way, least_rows
from helpers import all_trails, check_same
from models import content, scenes_by_words, seen
from samples import CHAIN, PAIR, RING, ROAD, random_document, random_hook

SHOP = [
    "table line", "value many", "link order order cascade", "flag ready", "table order", "flag paid",
    "link customer customer clear", "table customer", "value age",
]
CAT = ["table cat", "link parent cat clear", "flag shown"]


def book(*lines):
    return Book.read("\n".join(lines))


def brief(scene):
    """What a scene is about, without its stores."""
    return (scene.number, scene.event, scene.side, scene.folded, scene.deed)


class ByHand(unittest.TestCase):
    def check_scenes(self, lines, wanted):
        check_same(self, [seen(scene) for scene in scenes(book(*lines))], wanted)

    def test_a_read_of_a_value_without_steps(self):
        empty, one, changed = [("customer", 1, {"age": 0})], [("customer", 1, {"age": 1})], ("customer", 1)
        self.check_scenes(SHOP + ["document ages", "read age customer"], [
            ("ages", -1, ("put", "customer"), "new", (), ("put", "customer", 1, {"age": 0}), changed, 1, [], empty),
            ("ages", 0, ("set", "customer", "age"), "other", (), ("set", "customer", 1, "age", 1), changed, 1,
             empty, one),
        ])

    def test_a_flag_that_is_read_and_not_asked(self):
        off = [("order", 1, {"paid": False, "customer": None})]
        on = [("order", 1, {"paid": True, "customer": None})]
        event, changed = ("set", "order", "paid"), ("order", 1)
        self.check_scenes(SHOP + ["document sheet", "read paid order"], [
            ("sheet", -1, ("put", "order"), "new", (), ("put", "order", 1, off[0][2]), changed, 1, [], off),
            ("sheet", 0, event, "off", (), ("set", "order", 1, "paid", False), changed, 1, on, off),
            ("sheet", 0, event, "on", (), ("set", "order", 1, "paid", True), changed, 1, off, on),
        ])

    def test_a_flag_that_is_read_and_asked(self):
        asked = list(scenes(book(*SHOP, "document sheet", "read paid order[paid]")))
        read = list(scenes(book(*SHOP, "document sheet", "read paid order")))
        check_same(self, [seen(scene) for scene in asked], [seen(scene) for scene in read])

    def test_a_way_back(self):
        def rows(cells, order=True):
            line = [("line", 2, {"many": 0, "order": 1, "ready": True, **cells})] if cells is not None else []
            return line + [("order", 1, {"paid": order, "customer": None})]

        full = rows({})
        put = ("put", "line", 2, {"many": 0, "order": 1, "ready": True})
        new = {"paid": False, "customer": None}
        order, line = ("order", 1), ("line", 2)
        self.check_scenes(SHOP + ["document sheet", "read many order[paid] ~line.order[ready]"], [
            ("sheet", -1, ("put", "order"), "new", (), ("put", "order", 1, new), order, 1, [], [("order", 1, new)]),
            ("sheet", 0, ("set", "order", "paid"), "off", (), ("set", "order", 1, "paid", False), order, 1,
             full, rows({}, False)),
            ("sheet", 0, ("set", "order", "paid"), "on", (), ("set", "order", 1, "paid", True), order, 1,
             rows({}, False), full),
            ("sheet", 0, ("set", "line", "many"), "other", (), ("set", "line", 2, "many", 1), line, 1,
             full, rows({"many": 1})),
            ("sheet", 0, ("set", "line", "order"), "off", (), ("set", "line", 2, "order", None), line, 1,
             full, rows({"order": None})),
            ("sheet", 0, ("set", "line", "order"), "on", (), ("set", "line", 2, "order", 1), line, 1,
             rows({"order": None}), full),
            ("sheet", 0, ("set", "line", "ready"), "off", (), ("set", "line", 2, "ready", False), line, 1,
             full, rows({"ready": False})),
            ("sheet", 0, ("set", "line", "ready"), "on", (), ("set", "line", 2, "ready", True), line, 1,
             rows({"ready": False}), full),
            ("sheet", 0, ("remove", "line"), "off", (), ("remove", "line", 2), line, 1, full, rows(None)),
            ("sheet", 0, ("put", "line"), "on", (), put, line, 1, rows(None), full),
        ])

    def test_a_way_along_has_no_puts_and_removals(self):
        found = list(scenes(book(*SHOP, "document doc", "read age line order customer")))
        check_same(self, [brief(scene) for scene in found[1:]], [
            (0, ("set", "line", "order"), "off", (), ("set", "line", 1, "order", None)),
            (0, ("set", "line", "order"), "on", (), ("set", "line", 1, "order", 2)),
            (0, ("set", "order", "customer"), "off", (), ("set", "order", 2, "customer", None)),
            (0, ("set", "order", "customer"), "on", (), ("set", "order", 2, "customer", 3)),
            (0, ("set", "customer", "age"), "other", (), ("set", "customer", 3, "age", 1)),
        ])
        check_same(self, [scene.changed for scene in found], [
            ("line", 1), ("line", 1), ("line", 1), ("order", 2), ("order", 2), ("customer", 3),
        ])

    def test_a_row_in_the_middle_that_nothing_links_to(self):
        found = list(scenes(book(*SHOP, "document doc", "read age order ~line.order order customer")))
        check_same(self, [brief(scene) for scene in found if scene.event[0] in ("put", "remove")], [
            (-1, ("put", "order"), "new", (), ("put", "order", 1, {"paid": False, "customer": None})),
            (0, ("remove", "line"), "off", (), ("remove", "line", 2)),
            (0, ("put", "line"), "on", (), ("put", "line", 2, {"many": 0, "order": 1, "ready": False})),
        ])

    def test_rows_that_link_to_themselves(self):
        def rows(*parents):
            return [("cat", key, {"parent": parent, "shown": False}) for key, parent in enumerate(parents, 1)]

        event, cat = ("set", "cat", "parent"), ("cat", 1)
        shown = [("cat", 3, {"parent": None, "shown": True})]
        self.check_scenes(CAT + ["document tree", "read shown cat parent parent"], [
            ("tree", -1, ("put", "cat"), "new", (), ("put", "cat", 1, rows(None)[0][2]), cat, 1, [], rows(None)),
            ("tree", 0, event, "off", (), ("set", "cat", 1, "parent", None), cat, 1,
             rows(2, 3, None), rows(None, 3, None)),
            ("tree", 0, event, "off", (2,), ("set", "cat", 1, "parent", None), cat, 1, rows(1), rows(None)),
            ("tree", 0, event, "on", (), ("set", "cat", 1, "parent", 2), cat, 1,
             rows(None, 3, None), rows(2, 3, None)),
            ("tree", 0, event, "on", (2,), ("set", "cat", 1, "parent", 1), cat, 1, rows(None), rows(1)),
            ("tree", 0, event, "off", (), ("set", "cat", 2, "parent", None), ("cat", 2), 1,
             rows(2, 3, None), rows(2, None, None)),
            ("tree", 0, event, "off", (1,), ("set", "cat", 1, "parent", None), cat, 1, rows(1), rows(None)),
            ("tree", 0, event, "on", (), ("set", "cat", 2, "parent", 3), ("cat", 2), 1,
             rows(2, None, None), rows(2, 3, None)),
            ("tree", 0, event, "on", (1,), ("set", "cat", 1, "parent", 1), cat, 1, rows(None), rows(1)),
            ("tree", 0, ("set", "cat", "shown"), "off", (), ("set", "cat", 3, "shown", False), ("cat", 3), 1,
             rows(2, 3, None)[:2] + shown, rows(2, 3, None)),
            ("tree", 0, ("set", "cat", "shown"), "on", (), ("set", "cat", 3, "shown", True), ("cat", 3), 1,
             rows(2, 3, None), rows(2, 3, None)[:2] + shown),
        ])

    def test_a_flag_that_is_read_and_asked_elsewhere(self):
        # Row 2 is read and not asked; row 1 is asked: folded, they are one row that has the flag.
        def rows(*cats):
            return [("cat", key, {"parent": parent, "shown": shown}) for key, (parent, shown) in enumerate(cats, 1)]

        found = [scene for scene in scenes(book(*CAT, "document tree", "read shown cat[shown] parent"))]
        found = [seen(scene)[3:] for scene in found if scene.event == ("set", "cat", "shown")]
        one, two = ("cat", 1), ("cat", 2)
        check_same(self, found, [
            ("off", (), ("set", "cat", 1, "shown", False), one, 1, rows((2, True), (None, False)),
             rows((2, False), (None, False))),
            ("on", (), ("set", "cat", 1, "shown", True), one, 1, rows((2, False), (None, False)),
             rows((2, True), (None, False))),
            ("off", (), ("set", "cat", 2, "shown", False), two, 1, rows((2, True), (None, True)),
             rows((2, True), (None, False))),
            ("off", (1,), ("set", "cat", 1, "shown", False), one, 1, rows((1, True)), rows((1, False))),
            ("on", (), ("set", "cat", 2, "shown", True), two, 1, rows((2, True), (None, False)),
             rows((2, True), (None, True))),
            ("on", (1,), ("set", "cat", 1, "shown", True), one, 1, rows((1, False)), rows((1, True))),
        ])

    def test_sets_of_several_rows(self):
        found = [
            (scene.changed, scene.side, scene.folded, len(scene.ahead()))
            for scene in scenes(book(*CAT, "document tree", "read shown cat ~cat.parent ~cat.parent ~cat.parent"))
            if scene.event == ("set", "cat", "parent")
        ]
        check_same(self, found, [
            (("cat", changed), side, group, many)
            for of_row in (
                ((2, (), 4), (1, (3,), 2), (1, (3, 4), 1), (2, (4,), 2)),
                ((3, (), 4), (1, (2,), 2), (1, (2, 4), 1), (1, (4,), 1)),
                ((4, (), 4), (2, (2,), 2), (1, (2, 3), 1), (1, (3,), 1)),
            )
            for side in ("off", "on")
            for changed, group, many in of_row
        ])

    def test_documents_and_reads_in_their_order(self):
        found = list(scenes(book(
            *SHOP, "document second", "read age customer", "document first", "read paid order", "read paid order",
        )))
        check_same(self, [(scene.document, scene.number, scene.side) for scene in found], [
            ("second", -1, "new"), ("second", 0, "other"),
            ("first", -1, "new"), ("first", 0, "off"), ("first", 0, "on"), ("first", 1, "off"), ("first", 1, "on"),
        ])

    def test_hooks_and_bulk_columns_make_no_difference(self):
        plain = book(*CAT, "document tree", "read shown cat parent")
        full = book(*CAT, "document tree", "read shown cat parent", "hook put behind tree cat", "bulk cat shown")
        check_same(self, [seen(scene) for scene in scenes(plain)], [seen(scene) for scene in scenes(book=full)])


class ByTheWords(unittest.TestCase):
    def books(self, many):
        source = random.Random(23)
        for at in range(many):
            schema = (RING, CHAIN, PAIR, ROAD)[at % 4]
            first = random_document(source, schema, source.choice([2, 5]), source.choice([1, 2]))
            more = [random_document(source, schema, 2, 1, "more")] if source.random() < 0.3 else []
            yield Book([first, *more], [])

    def test_random_books(self):
        for one in self.books(120):
            check_same(self, [seen(scene) for scene in scenes(one)], list(scenes_by_words(one)))

    def test_each_deed_makes_one_change_and_changes_the_copy(self):
        for one in self.books(60):
            for scene in scenes(one):
                self.check_scene(one, scene)

    def check_scene(self, one, scene):
        self.assertIsInstance(scene, Scene)
        ahead, behind = scene.ahead(), scene.behind()
        steps = ahead.duplicate().apply(scene.deed)
        check_same(self, len(steps), 1)
        check_same(self, (scene.event[1], steps[0][2]), scene.changed)
        done = ahead.duplicate()
        done.apply(scene.deed)
        check_same(self, done.rows(), behind.rows())
        document = one.document_named(scene.document)
        if scene.side == "new":
            check_same(self, (len(ahead), scene.changed), (0, (document.base, scene.key)))
        else:
            self.assertNotEqual(content(document, ahead, scene.key), content(document, behind, scene.key))

    def test_the_greatest_books(self):
        way = "cat" + " ~cat.parent[shown]" * 4 + " ~cat.parent"
        one = book(*CAT, "document tree", *["read shown " + way] * 4)
        found = list(scenes(one))
        # Five links with 16 sets of others, four flags with 8, one with 16, on both sides; one row comes and goes.
        check_same(self, len(found), 1 + 4 * (2 * 5 * 16 + 2 * 4 * 8 + 2 * 16 + 2))
        check_same(self, max(len(scene.folded) for scene in found), 4)


class Returned(unittest.TestCase):
    def test_kinds(self):
        for scene in scenes(book(*CAT, "document tree", "read shown cat ~cat.parent")):
            for part in (scene.folded, scene.event, scene.deed, scene.changed):
                self.assertIsInstance(part, tuple)
            self.assertIsInstance(scene.ahead(), Store)
            self.assertIsInstance(scene.behind(), Store)
            check_same(self, str(scene.ahead().schema), "\n".join(CAT))

    def test_stores_are_new(self):
        one = book(*CAT, "document tree", "read shown cat ~cat.parent")
        for scene in list(scenes(one)):
            before = seen(scene)
            for store in (scene.ahead(), scene.behind()):
                if ("cat", 1) in store:
                    store.change("cat", 1, "shown", True)
                    store.remove("cat", 1)
            check_same(self, seen(scene), before)


class Cover(unittest.TestCase):
    LINES = CAT + ["document tree", "read shown cat[shown] parent"]

    def scene(self, event, side, folded=(), at=0):
        found = [
            scene for scene in scenes(book(*self.LINES))
            if (scene.event, scene.side, scene.folded) == (event, side, folded)
        ]
        return found[at]

    def hook(self, text, event, look, name="tree"):
        return Hook(event, look, Way(CHAIN_LIKE, text), name)

    def test_looks(self):
        event = ("set", "cat", "parent")
        off, on = self.scene(event, "off"), self.scene(event, "on")
        for text, look, scene, wanted in (
            ("cat", "ahead", off, (1,)), ("cat", "behind", off, (1,)), ("cat", "late", off, (1,)),
            ("cat parent ~cat.parent", "ahead", off, (1, 2, 1)), ("cat parent ~cat.parent", "behind", off, None),
            ("cat parent ~cat.parent", "late", off, None), ("cat parent ~cat.parent", "ahead", on, None),
            ("cat parent ~cat.parent", "behind", on, (1, 2, 1)), ("cat parent ~cat.parent", "late", on, (1, 2, 1)),
            ("cat[shown]", "ahead", on, (1,)), ("cat parent", "ahead", off, None),
        ):
            check_same(self, cover(scene, self.hook(text, event, look)), wanted)

    def test_flags(self):
        event = ("set", "cat", "shown")
        off, on = self.scene(event, "off"), self.scene(event, "on")
        for look, off_wanted, on_wanted in (("ahead", (1,), None), ("behind", None, (1,)), ("late", None, (1,))):
            check_same(self, cover(off, self.hook("cat[shown]", event, look)), off_wanted)
            check_same(self, cover(on, self.hook("cat[shown]", event, look)), on_wanted)
            check_same(self, cover(off, self.hook("cat", event, look)), (1,))

    def test_another_event_or_document(self):
        event = ("set", "cat", "shown")
        off = self.scene(event, "off")
        check_same(self, cover(off, self.hook("cat", event, "ahead")), (1,))
        check_same(self, cover(scene=off, hook=self.hook("cat", event, "ahead")), (1,))
        check_same(self, cover(off, self.hook("cat", ("set", "cat", "parent"), "ahead")), None)
        check_same(self, cover(off, self.hook("cat", ("put", "cat"), "ahead")), None)
        check_same(self, cover(off, self.hook("cat", event, "ahead", "other")), None)

    def test_puts_and_removals(self):
        lines = CAT + ["document tree", "read shown cat ~cat.parent"]
        put, = [scene for scene in scenes(book(*lines)) if scene.event == ("put", "cat") and scene.side == "on"]
        gone, = [scene for scene in scenes(book(*lines)) if scene.event == ("remove", "cat")]
        for look, put_wanted, gone_wanted in (
            ("ahead", None, (2, 1)), ("behind", (2, 1), None), ("late", (2, 1), None),
        ):
            check_same(self, cover(put, self.hook("cat parent", ("put", "cat"), look)), put_wanted)
            check_same(self, cover(gone, self.hook("cat parent", ("remove", "cat"), look)), gone_wanted)

    def test_the_new_case(self):
        scene = next(iter(scenes(book(*self.LINES))))
        for text, look, wanted in (
            ("cat", "behind", (1,)), ("cat", "late", (1,)), ("cat", "ahead", None), ("cat[shown]", "behind", None),
            ("cat parent", "behind", None), ("cat parent ~cat.parent", "behind", None),
        ):
            check_same(self, cover(scene, self.hook(text, ("put", "cat"), look)), wanted)

    def test_the_first_trail(self):
        lines = CAT + ["document tree", "read shown cat parent ~cat.parent ~cat.parent"]
        scene = [scene for scene in scenes(book(*lines)) if scene.event == ("set", "cat", "shown")][0]
        check_same(self, scene.changed, ("cat", 4))
        event = ("set", "cat", "shown")
        hook = self.hook("cat parent parent ~cat.parent parent ~cat.parent", event, "ahead")
        check_same(self, cover(scene, hook), (4, 3, 2, 1, 2, 1))

    def test_random_hooks(self):
        source = random.Random(26)
        found = 0
        for at in range(60):
            document = random_document(source, (RING, CHAIN, PAIR, ROAD)[at % 4], 3, 1)
            hooks = [random_hook(source, document, 4, ("ahead", "behind", "late")) for _ in range(20)]
            for scene in scenes(Book([document], [])):
                for hook in hooks:
                    wanted = self.first_cover(scene, hook)
                    check_same(self, cover(scene, hook), wanted)
                    found += wanted is not None
        self.assertGreater(found, 100)

    def first_cover(self, scene, hook):
        if hook.event != scene.event or hook.document != scene.document:
            return None
        store = scene.ahead() if hook.look == "ahead" else scene.behind()
        ends = (scene.changed[1], scene.key)
        trails = [trail for trail in all_trails(hook.way, store) if (trail[0], trail[-1]) == ends]
        return trails[0] if trails else None

    def test_hooks_of_eight_steps_with_very_many_trails(self):
        # All that can be folded is folded into one row, with itself as its parent.
        lines = CAT + ["document tree", "read shown cat" + " ~cat.parent parent" * 2 + " ~cat.parent"]
        hook = self.hook("cat parent" + " ~cat.parent parent" * 3 + " ~cat.parent", ("set", "cat", "shown"), "ahead")
        scene = [scene for scene in scenes(book(*lines)) if scene.event == ("set", "cat", "shown")][0]
        check_same(self, cover(scene, hook), None)
        back = self.hook("cat" + " parent ~cat.parent" * 3 + " parent", ("set", "cat", "shown"), "ahead")
        check_same(self, cover(scene, back), (4, 1, 2, 1, 2, 1, 2, 1))


CHAIN_LIKE = book(*CAT, "document tree", "read shown cat").schema


class LeastStores(unittest.TestCase):
    def test_scenes_with_an_empty_set_are_in_the_least_store(self):
        one = book(*CAT, "document tree", "read shown cat[shown] ~cat.parent parent ~cat.parent[shown]")
        rows = list(least_rows(one.documents[0].reads[0][0])[0])
        for scene in scenes(one):
            if scene.number == 0 and scene.folded == ():
                full = scene.ahead() if scene.side == "off" else scene.behind()
                check_same(self, full.rows(), rows)


if __name__ == "__main__":
    unittest.main()
