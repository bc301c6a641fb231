import random
import unittest

from owedrebuilds.books import Book
from owedrebuilds.documents import Document
from owedrebuilds.fewest import full_book, waste
from owedrebuilds.hooks import Hook
from owedrebuilds.scenes import Scene, meetings
from owedrebuilds.schemas import Schema
from owedrebuilds.ways import Way
from helpers import check_same
from models import content, joined, seen
from samples import CHAIN, PAIR, RING, ROAD, random_document, random_hook
from worlds import World, all_stores

SCHEMA = Schema("\n".join([
    "table line", "value many", "value other", "link order order clear", "flag ready",
    "table order", "flag paid", "flag open",
]))
SHEET = Document(
    "sheet", (Way(SCHEMA, "order[paid] ~line.order[ready]"), "many"), (Way(SCHEMA, "order"), "open"),
)


def hook(event, look, text, document="sheet"):
    return Hook(event, look, Way(SCHEMA, text), document)


class ByHand(unittest.TestCase):
    MANY, OTHER, ORDER, READY = [("set", "line", column) for column in ("many", "other", "order", "ready")]

    def wasted(self, one, side, deed, document=SHEET):
        scene = waste(one, document)
        self.assertIsInstance(scene, Scene)
        check_same(self, (scene.side, scene.folded, scene.number, scene.deed), (side, (), None, deed))
        check_same(self, seen(scene), next(seen(found) for found in meetings(one) if seen(found) == seen(scene)))

    def never(self, one, document=SHEET):
        check_same(self, waste(one, document), None)
        check_same(self, waste(hook=one, document=document), None)

    def test_values(self):
        for look in ("ahead", "behind", "late"):
            self.never(hook(self.MANY, look, "line[ready] order[paid]"))
            self.never(hook(self.MANY, look, "line[ready] order[open,paid]"))
            for text in ("line order", "line order[paid]", "line[ready] order"):
                self.wasted(hook(self.MANY, look, text), "other", ("set", "line", 1, "many", 1))
            self.wasted(hook(self.OTHER, look, "line[ready] order[paid]"), "other", ("set", "line", 1, "other", 1))

    def test_links(self):
        for look, side, cell in (("ahead", "off", None), ("behind", "on", 2), ("late", "on", 2)):
            self.never(hook(self.ORDER, look, "line[ready] order[paid]"))
            self.wasted(hook(self.ORDER, look, "line order[paid]"), side, ("set", "line", 1, "order", cell))

    def test_flags(self):
        for look in ("ahead", "behind"):
            self.never(hook(self.READY, look, "line order[paid]"))
            self.never(hook(self.READY, look, "line[ready] order[paid]"))
            self.never(hook(("set", "order", "open"), look, "order"))
            self.never(hook(("set", "order", "open"), look, "order[paid]"))
        # The first of the two meetings has the row as it is in the least store in the near one.
        self.wasted(hook(self.READY, "ahead", "line order"), "on", ("set", "line", 1, "ready", True))
        self.wasted(hook(self.READY, "behind", "line order"), "off", ("set", "line", 1, "ready", False))
        self.wasted(hook(self.READY, "late", "line order"), "off", ("set", "line", 1, "ready", False))
        self.wasted(hook(("set", "order", "paid"), "ahead", "order"), "on", ("set", "order", 1, "paid", True))
        self.never(hook(("set", "order", "paid"), "ahead", "order ~line.order[ready] order"))

    def test_the_second_meeting(self):
        # A flag that is off and comes on changes the copy; the other way round it is met behind a change of nothing.
        document = Document("sheet", (Way(SCHEMA, "order[open] ~line.order"), "many"))
        one = hook(("set", "order", "open"), "behind", "order ~line.order order")
        self.never(one, document)
        self.wasted(one, "off", ("set", "order", 1, "open", False),
                    Document("sheet", (Way(SCHEMA, "order[open] ~line.order[ready]"), "many")))

    def test_puts_and_removals(self):
        for look in ("behind", "late"):
            self.never(hook(("put", "line"), look, "line[ready] order[paid]"))
            self.wasted(hook(("put", "line"), look, "line order"), "on",
                        ("put", "line", 1, {"many": 0, "other": 0, "order": 2, "ready": False}))
            # A put changes the copy of its row, whatever is read.
            self.never(hook(("put", "order"), look, "order"))
            self.never(hook(("put", "order"), look, "order[open,paid]"))
            self.never(hook(("remove", "line"), look, "line order"))
        self.never(hook(("remove", "line"), "ahead", "line[ready] order[paid]"))
        self.wasted(hook(("remove", "line"), "ahead", "line order"), "off", ("remove", "line", 1))

    def test_hooks_that_never_meet_anything(self):
        self.never(hook(("put", "line"), "ahead", "line order"))
        self.never(hook(("put", "order"), "ahead", "order"))
        self.never(hook(("remove", "order"), "ahead", "order"))
        self.never(hook(("remove", "order"), "ahead", "order ~line.order order"))
        self.never(hook(("put", "order"), "behind", "order ~line.order order"))

    def test_only_an_empty_set_counts(self):
        # A cat that is its own parent and loses it is met, and is no longer its own parent; the read asks that it is.
        schema = Schema("table cat\nlink parent cat clear\nflag shown")
        document = Document("sheet", (Way(schema, "cat ~cat.parent[shown]"), "shown"))
        one = Hook(("set", "cat", "shown"), "ahead", Way(schema, "cat[shown] parent"), "sheet")
        check_same(self, waste(one, document), None)
        way = "cat[shown]" + " ~cat.parent[shown]" * 8
        found = waste(Hook(("set", "cat", "shown"), "ahead", Way(schema, way), "sheet"), document)
        check_same(self, found.folded, ())

    def test_hooks_of_full_books(self):
        # Straight ones never waste a rebuild: they ask all that the read asks up to their row, and those beyond.
        full = full_book([Document("sheet", (Way(SCHEMA, "order[paid] ~line.order[ready]"), "many"))])
        wasting = [str(found) for found in full if waste(found, full.documents[0])]
        check_same(self, wasting, ["hook set paid ahead sheet order", "hook set paid behind sheet order"])


class AgainstAllSmallStores(unittest.TestCase):
    def wastes(self, world, one, most):
        """Whether, in a store of up to so many rows, the hook meets a copy that the change does not change."""
        for many in range(1, most + 1):
            for store in all_stores(world.book.schema, many):
                here = world.place(store)
                for step, _, there in list(world.changes(here)):
                    pairs = [(step, here, there)]
                    if step[0] == "remove":
                        pairs.append((("put", *step[1:]), there, here))
                    for change, ahead, behind in pairs:
                        if any(
                            world.content(copy, ahead) == world.content(copy, behind)
                            for copy in world.early(change, ahead, behind)
                        ):
                            return True
        return False

    def check_hooks(self, schema, seeds, most, steps):
        found = {True: 0, False: 0}
        for seed in seeds:
            source = random.Random(seed)
            document = random_document(source, schema, 2, source.choice([1, 2]))
            if seed % 2:
                one = source.choice(list(full_book([document])))
            else:
                one = random_hook(source, document, steps)
            scene = waste(one, document)
            found[scene is None] += 1
            if scene is None:
                self.assertFalse(self.wastes(World(Book([document], [one])), one, most), (str(one), seed))
            else:
                self.check_scene(scene, one, document)
        return found

    def check_scene(self, scene, one, document):
        """The hook meets the copy there, and the change does not change it."""
        ahead, behind = scene.ahead(), scene.behind()
        done = ahead.duplicate()
        check_same(self, len(done.apply(scene.deed)), 1)
        check_same(self, done.rows(), behind.rows())
        self.assertIn(scene.key, joined(one.way, ahead if one.look == "ahead" else behind, scene.changed[1]))
        check_same(self, content(document, ahead, scene.key), content(document, behind, scene.key))

    def test_a_table_that_links_to_itself(self):
        found = self.check_hooks(CHAIN, range(24), 2, 3)
        self.assertGreater(min(found.values()), 4)

    def test_three_rows(self):
        found = self.check_hooks(CHAIN, range(100, 108), 3, 2)
        self.assertGreater(min(found.values()), 1)

    def test_two_tables(self):
        found = self.check_hooks(PAIR, range(40), 3, 3)
        self.assertGreater(min(found.values()), 8)

    def test_other_schemas(self):
        for schema in (RING, ROAD):
            found = self.check_hooks(schema, range(30), 1, 4)
            self.assertGreater(min(found.values()), 2)


if __name__ == "__main__":
    unittest.main()
