"""At the bounds of the document everything answers, as no trails are listed that need not be.

A table with forty rows that all link to one has more trails than could be gone through: a way of
eight steps there and back has 40 ** 4 for each pair of rows.
"""

import random
import unittest

from owedrebuilds.books import Book
from owedrebuilds.comparing import compare, is_parting
from owedrebuilds.desks import Desk, owed_by
from owedrebuilds.documents import Document
from owedrebuilds.fewest import full_book, may_ask, waste
from owedrebuilds.hooks import Hook
from owedrebuilds.judging import judge
from owedrebuilds.looker import is_certificate
from owedrebuilds.scenes import cover, meetings, scenes
from owedrebuilds.schemas import Schema
from owedrebuilds.stores import Store
from owedrebuilds.ways import Way
from helpers import check_error, check_same

SCHEMA = Schema("table cat\nlink a cat clear\nlink b cat clear\nflag f\nvalue v")
SET_A, SET_F, SET_V = [("set", "cat", column) for column in "afv"]
AWAY = " a ~cat.a"


def way(text):
    return Way(SCHEMA, text)


def hook(event, look, text):
    return Hook(event, look, way(text), "doc")


def star(many=40):
    return Store(SCHEMA, [("cat", key, {"a": 1, "b": 1, "f": True}) for key in range(1, many + 1)])


def lean():
    """A document with few trails even in a star: only row 1 has more than one of each read."""
    return Document("doc", (way("cat a a a a a"), "v"), (way("cat a b a b a"), "v"), (way("cat ~cat.b"), "f"))


class Desks(unittest.TestCase):
    HOOKS = [hook(SET_V, look, "cat" + AWAY * 4) for look in ("ahead", "behind") for _ in range(30)]

    def test_sixty_hooks_of_eight_steps(self):
        one = Desk(Book([lean()], self.HOOKS), star(), most=1000)
        deeds = [("set", "cat", key, "v", 5) for key in range(1, 31)]
        run = one.do(*deeds)
        check_same(self, (run.owed, run.built), (tuple(("doc", key) for key in range(1, 41)), 40))
        check_same(self, one.stale(), [])

    def test_a_removal_of_many_changes(self):
        book = Book([lean()], [hook(SET_A, "ahead", "cat" + AWAY * 4)] * 60)
        for at_once in (False, True):
            one = Desk(book, star(), most=1000)
            run = one.do(("remove", "cat", 1), at_once=at_once)
            check_same(self, (len(run), len(run.owed)), (81, 40))

    def test_owed_by(self):
        book = Book([lean()], self.HOOKS)
        check_same(self, list(owed_by(book, star(), ("set", "cat", 3, "v", 9))), [("doc", key) for key in range(1, 41)])

    def test_copies_with_too_many_trails(self):
        document = Document("doc", *[(way("cat ~cat.a" + " b ~cat.a" * 2), "v")] * 4)
        book = Book([document], [])
        check_same(self, document.count(star(), 1), 4 * 40 ** 3)
        check_error(self, ("TooLong", "doc", 1, 1000), Desk, book, star(), most=1000)
        check_error(self, ("TooLong", "doc", 1, 0), Desk, book, star(), most=0)
        # Rows that come to link to one that was built make its copy stale; it is counted, not listed.
        few = Store(SCHEMA, [("cat", key, {}) for key in range(1, 41)])
        one = Desk(book, few, most=1000)
        for key in range(1, 41):
            one.do(("set", "cat", key, "a", 1), ("set", "cat", key, "b", 1))
        check_same(self, one.stale(), [("doc", 1)])
        check_same(self, one.content("doc", 1), ((), (), (), ()))


class Scenes(unittest.TestCase):
    def test_scenes_and_cover(self):
        book = Book([Document("doc", *[(way("cat[f]" + " ~cat.a[f]" * 3 + " ~cat.a" * 2), "v")] * 4)], [])
        found = list(scenes(book))
        hooks = [hook(SET_A, look, "cat" + AWAY * 4) for look in ("ahead", "behind", "late")]
        covered = [scene for scene in found if any(cover(scene, one) for one in hooks)]
        self.assertGreater(len(found), 800)
        self.assertGreater(len(covered), 100)

    def test_meetings(self):
        found = list(meetings(hook(SET_F, "ahead", "cat[f]" + " ~cat.b[f]" * 8)))
        check_same(self, len(found), 256)
        check_same(self, (len(found[0].ahead()), len(found[1].ahead())), (9, 8))


class Judging(unittest.TestCase):
    def book(self, source, reads=4):
        """A full book of long ways, with hooks of eight steps about one event ahead of it."""
        ends = ["~cat.a", "~cat.b", "a", "b"]
        texts = ["cat[f]" + " ~cat.a[f]" * 3 + f" {source.choice(ends)} {source.choice(ends)}" for _ in range(reads)]
        full = full_book([Document("doc", *[(way(text), "v") for text in texts])])
        more = [
            hook(SET_A, source.choice(["ahead", "behind"]), " ".join(["cat", *source.choices(ends, k=8)]))
            for _ in range(60 - len(full))
        ]
        return Book(full.documents, [*more, *full])

    def test_sixty_hooks_and_four_reads(self):
        for seed in range(4):
            source = random.Random(seed)
            book = self.book(source)
            check_same(self, len(book), 60)
            verdict = judge(book)
            check_same(self, (bool(verdict), len(verdict)), (True, 0))
            check_same(self, is_certificate(book, verdict.certificate), True)
            check_same(self, len(may_ask(book, 0)) > 5, True)
            for at in range(20, 60, 7):
                less = book.only([number for number in range(60) if number != at])
                verdict = judge(less)
                check_same(self, is_certificate(less, verdict.certificate), True)

    def test_without_hooks_of_one_event(self):
        book = self.book(random.Random(9))
        less = book.only([number for number, one in enumerate(book) if one.event != ("set", "cat", "v")])
        check_same(self, (bool(judge(less)), len(judge(less))), (False, 1))

    def test_bulk_columns(self):
        full = self.book(random.Random(5))
        book = Book(full.documents, list(full), bulk=(("cat", "a"), ("cat", "v")))
        check_same(self, (len(judge(book)), judge(book).certificate[2][0][0]), (1, "bulk"))


class Comparing(unittest.TestCase):
    def flags(self, look, letters):
        return hook(SET_F, look, " ".join(["cat[f]", *[f"~cat.{letter}[f]" for letter in letters]]))

    def test_24_hooks_in_each_book(self):
        source = random.Random(2)
        documents = [lean()]
        words = ["".join(source.choices("ab", k=8)) for _ in range(23)]
        one = Book(documents, [self.flags("ahead", "aaaaaaaa")] * 24)
        plain = hook(SET_F, "behind", "cat" + " ~cat.a" * 8)
        other = Book(documents, [*[self.flags("behind", word) for word in words], plain])
        comparison = compare(one, other)
        check_same(self, bool(comparison), False)
        check_same(self, is_parting(other, one, comparison.certificate), True)
        both = [self.flags(look, word) for look in ("ahead", "behind") for word in words[:12]]
        check_same(self, compare(Book(documents, both), Book(documents, both[::-1])).certificate, ("alike",))

    def test_waste(self):
        for look in ("ahead", "behind", "late"):
            scene = waste(self.flags(look, "aaaaaaaa"), lean())
            check_same(self, scene is None or scene.folded == (), True)


if __name__ == "__main__":
    unittest.main()
