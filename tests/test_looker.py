import random
import unittest

from owedrebuilds.books import Book
from owedrebuilds.fewest import full_book
from owedrebuilds.hooks import Hook
from owedrebuilds.judging import judge
from owedrebuilds.looker import is_certificate
from owedrebuilds.scenes import scenes
from owedrebuilds.ways import Way
from helpers import check_same, strict
from samples import CHAIN, PAIR, RING, ROAD, changed_book, random_document

SHOP = [
    "table line", "value many", "link order order cascade", "flag ready", "table order", "flag paid",
    "document sheet", "read many order[paid] ~line.order[ready]",
]
HOOKS = [
    "hook put behind sheet order", "hook set paid behind sheet order", "hook set many behind sheet line order",
    "hook set order ahead sheet line order", "hook set order behind sheet line order",
    "hook set ready behind sheet line order", "hook remove ahead sheet line order", "hook put behind sheet line order",
]
ANYTHING = (
    None, 0, 1, -1, True, False, "", "kept", "stale", (), ("kept",), ("stale",), [], {}, ("kept", ()), ("kept", None),
    ("stale", (), (), "sheet", 1), ("stale", (), (), "sheet"), ("kept", (), ()), ("Kept", ()), [("kept", ())], 10 ** 39,
    ("stale", None, None, None, None), ("stale", [], [], [], []), ("stale", {}, {}, {}, {}), {"kept": ()},
    ("parted", (), (), "sheet", 1), ("alike",), (("kept", ()),), ([], ()), ({}, ()), ("stale", (), (None,), "sheet", 1),
    ("stale", ((),), (), "sheet", 1), ("stale", ((((((),),),),),), (), "sheet", 1), ("kept", (((),),)), (True, ()),
)


def book(*lines):
    return Book.read("\n".join(lines))


KEPT = book(*SHOP, *HOOKS)
# A line that moves is not seen ahead; and the columns of lines and orders may be changed by bulk deeds.
STALE = book(*SHOP, *HOOKS[:3], *HOOKS[4:], "bulk line ready")


CHAIN_OF_CATS = book("table cat", "link parent cat clear", "flag shown", "document a", "read shown cat").schema


class Kept(unittest.TestCase):
    ANSWERS = judge(KEPT).certificate[1]

    def check_is(self, wanted, answers, one=KEPT):
        check_same(self, is_certificate(one, ("kept", answers)), wanted)

    def replaced(self, at, pair):
        return self.ANSWERS[:at] + (pair,) + self.ANSWERS[at + 1:]

    def test_what_judge_returns(self):
        self.check_is(True, self.ANSWERS)
        check_same(self, is_certificate(book=KEPT, thing=judge(KEPT).certificate), True)

    def test_answers_left_out_or_put_twice(self):
        for at in range(len(self.ANSWERS)):
            self.check_is(False, self.ANSWERS[:at] + self.ANSWERS[at + 1:])
            self.check_is(False, self.ANSWERS[:at] + self.ANSWERS[at:at + 1] + self.ANSWERS[at:])
        self.check_is(False, ())
        self.check_is(False, self.ANSWERS + self.ANSWERS)

    def test_answers_exchanged(self):
        for at in range(len(self.ANSWERS)):
            for other in range(at):
                swapped = list(self.ANSWERS)
                swapped[at], swapped[other] = swapped[other], swapped[at]
                self.check_is(strict(tuple(swapped)) == strict(self.ANSWERS), tuple(swapped))
        self.check_is(False, self.ANSWERS[::-1])

    def test_other_numbers_of_hooks(self):
        good = {0: (0,), 1: (1,), 2: (1,), 3: (2,), 4: (3,), 5: (4,), 6: (5,), 7: (5,), 8: (6,), 9: (7,)}
        for at, (number, trail) in enumerate(self.ANSWERS):
            for other in (*range(8), -1, 8, 9, 100, 10 ** 39, True, False, None, "0", (0,), [0]):
                is_good = not isinstance(other, bool) and other in good[at]
                self.check_is(is_good, self.replaced(at, (other, trail)))

    def test_other_trails(self):
        for at, (number, trail) in enumerate(self.ANSWERS):
            for other in (
                None, (), 1, "1", list(trail), trail + (1,), trail[:-1], trail[::-1] if len(trail) > 1 else (2,),
                (3,) * len(trail), (True,) * len(trail), (0,) * len(trail), ("1",) * len(trail), trail[:-1] + (True,),
                trail[:-1] + ([1],), (trail,),
            ):
                self.check_is(False, self.replaced(at, (number, other)))

    def test_other_pairs(self):
        for at, (number, trail) in enumerate(self.ANSWERS):
            for pair in (
                None, (), (number,), (trail,), [number, trail], (trail, number), (number, trail, trail), number, trail,
                {"number": number, "trail": trail}, "", ((number, trail),),
            ):
                self.check_is(False, self.replaced(at, pair))

    def test_other_kinds(self):
        self.check_is(False, list(self.ANSWERS))
        self.check_is(False, None)
        self.check_is(False, {})
        check_same(self, is_certificate(KEPT, ["kept", self.ANSWERS]), False)
        check_same(self, is_certificate(KEPT, ("kept", self.ANSWERS, ())), False)
        check_same(self, is_certificate(KEPT, ("stale", self.ANSWERS)), False)
        check_same(self, is_certificate(KEPT, ("kept ", self.ANSWERS)), False)

    def test_other_books(self):
        self.check_is(False, self.ANSWERS, STALE)
        self.check_is(False, self.ANSWERS, KEPT.only([1, 0, 2, 3, 4, 5, 6, 7]))
        self.check_is(True, self.ANSWERS, KEPT.plus(KEPT.hooks[0]))
        self.check_is(False, self.ANSWERS, KEPT.only([0, 1, 2, 3, 4, 5, 6]))
        more = Book(KEPT.documents * 1, KEPT.hooks, bulk=(("line", "many"),))
        self.check_is(False, self.ANSWERS, more)

    def test_hooks_of_another_document(self):
        lines = SHOP[:6] + ["document first", "read paid order", "document second", "read paid order"]
        one = book(*lines, *[
            f"hook {event} behind {name} order" for name in ("first", "second") for event in ("put", "set paid")
        ])
        answers = judge(one).certificate[1]
        check_same(self, [number for number, _ in answers], [0, 1, 1, 2, 3, 3])
        self.check_is(True, answers, one)
        for at, (number, trail) in enumerate(answers):
            other = (number + 2 * (1 if number < 2 else -1), trail)
            self.check_is(False, answers[:at] + (other,) + answers[at + 1:], one)

    def test_trails_between_other_rows(self):
        lines = ["table cat", "link parent cat clear", "flag shown", "document tree", "read shown cat parent"]
        one = full_book(book(*lines).documents).plus(
            Hook(("set", "cat", "shown"), "ahead", Way(CHAIN_OF_CATS, "cat"), "tree"),
            Hook(("set", "cat", "shown"), "ahead", Way(CHAIN_OF_CATS, "cat ~cat.parent parent"), "tree"),
        )
        answers = judge(one).certificate[1]
        self.check_is(True, answers, one)
        at, = [at for at, scene in enumerate(scenes(one)) if (scene.event[2:], scene.side) == (("shown",), "off")]
        check_same(self, answers[at][1], (2, 1))
        # Row 2 has changed; the copy is that of row 1.
        for pair in ((len(one) - 2, (2,)), (len(one) - 2, (1,)), (len(one) - 1, (2, 1, 2)), (answers[at][0], (1, 2))):
            self.check_is(False, answers[:at] + (pair,) + answers[at + 1:], one)

    def test_any_trail_and_any_hook_that_cover(self):
        lines = ["table cat", "link parent cat clear", "flag shown", "document tree"]
        one = full_book(book(*lines, "read shown cat parent ~cat.parent").documents)
        one = one.plus(*[hook.looking("ahead") for hook in one], *one)
        answers = judge(one).certificate[1]
        check_same(self, is_certificate(one, ("kept", answers)), True)
        found = 0
        for at, (number, trail) in enumerate(answers):
            for other in range(len(one)):
                for keys in ((1,), (1, 2, 1), (3, 2, 1), (1, 1, 1)):
                    changed = answers[:at] + ((other, keys),) + answers[at + 1:]
                    is_good = is_certificate(one, ("kept", changed))
                    if (other, keys) == (number, trail):
                        check_same(self, is_good, True)
                    elif is_good:
                        found += 1
        self.assertGreater(found, 1)

    def test_books_that_are_not_kept_by_bulk_columns(self):
        for column in ("line many", "line order", "line ready", "order paid"):
            self.check_is(False, self.ANSWERS, book(*SHOP, *HOOKS, "bulk " + column))

    def test_books_that_are_not_kept_by_late_hooks(self):
        late = [line.replace("ready behind", "ready late") for line in HOOKS]
        self.check_is(True, self.ANSWERS, book(*SHOP, *late))
        late[3] = "hook set order ahead sheet line[ready] order"
        self.check_is(False, self.ANSWERS, book(*SHOP, *late))
        late[5] = "hook set ready behind sheet line order"
        self.check_is(True, self.ANSWERS, book(*SHOP, *late))
        late[7] = "hook put late sheet line order"
        self.check_is(True, self.ANSWERS, book(*SHOP, *late))


class Stale(unittest.TestCase):
    ROWS = (("line", 2, {"order": 1, "ready": True}), ("order", 1, {"paid": True}))
    DEEDS = (("set", "line", 2, "order", None),)

    def check_is(self, wanted, rows=ROWS, deeds=DEEDS, name="sheet", key=1, one=STALE):
        check_same(self, is_certificate(one, ("stale", rows, deeds, name, key)), wanted)

    def test_what_judge_returns(self):
        verdict = judge(STALE)
        check_same(self, is_certificate(STALE, verdict.certificate), True)
        self.check_is(True)

    def test_other_words(self):
        for word in ("parted", "Stale", "kept", "", None, True, ("stale",)):
            check_same(self, is_certificate(STALE, (word, self.ROWS, self.DEEDS, "sheet", 1)), False)

    def test_rows_in_any_order_and_cells_left_out(self):
        full = ("line", 2, {"many": 0, "order": 1, "ready": True})
        self.check_is(True, rows=self.ROWS[::-1])
        self.check_is(True, rows=(full, self.ROWS[1]))
        self.check_is(True, rows=(self.ROWS[1], full))
        more = (("order", 7, {}), *self.ROWS, ("line", 1, {"order": 7}), ("line", 10 ** 9, {}))
        self.check_is(True, rows=more)
        check_same(self, len(judge(STALE)), 2)

    def test_other_rows(self):
        self.check_is(False, rows=())
        self.check_is(False, rows=self.ROWS[:1])
        self.check_is(False, rows=self.ROWS[1:])
        self.check_is(False, rows=self.ROWS + self.ROWS[:1])
        self.check_is(False, rows=list(self.ROWS))
        self.check_is(False, rows=tuple(list(row) for row in self.ROWS))
        self.check_is(False, rows=(("line", 2, {"order": 1}), self.ROWS[1]))
        self.check_is(False, rows=(self.ROWS[0], ("order", 1, {})))
        self.check_is(False, rows=(self.ROWS[0], ("order", 1, {"paid": 1})))
        self.check_is(False, rows=(self.ROWS[0], ("order", True, {"paid": True})))
        self.check_is(False, rows=(self.ROWS[0], ("order", 1, {"paid": True, "oops": 1})))
        self.check_is(False, rows=(*self.ROWS, None))
        self.check_is(False, rows=(*self.ROWS, ("oops", 1, {})))
        self.check_is(False, rows=self.ROWS + tuple(("order", key, {}) for key in range(2, 41)))
        self.check_is(True, rows=self.ROWS + tuple(("order", key, {}) for key in range(2, 40)))

    def test_other_deeds(self):
        for deeds in (
            (), list(self.DEEDS), self.DEEDS[0], None, (list(self.DEEDS[0]),), (None,), self.DEEDS + (None,),
            self.DEEDS * 31, (("set", "line", 3, "order", None),), (("set", "line", 2, "order", 1),),
            (("set", "line", 2, "oops", None),), (("set", "line", 2, "many", 1),), (("remove", "line", 2),),
            (("remove", "line", 2), *self.DEEDS), (*self.DEEDS, ("set", "line", 2, "order", 1)),
            (*self.DEEDS, ("set", "order", 1, "paid", False)), (*self.DEEDS, ("remove", "order", 1)),
            (("bulk", "line", (2,), "order", None),), (("bulk", "line", [2], "ready", False),),
            (("bulk", "line", (2,), "ready", False), ("bulk", "line", (2,), "many", 1)), (("set", "line", 2, "order"),),
        ):
            self.check_is(False, deeds=deeds)
        for deeds in (
            self.DEEDS * 2, self.DEEDS * 30, (*self.DEEDS, ("remove", "line", 2)),
            (("bulk", "line", (2,), "ready", False),), (("put", "line", 1, {"many": 3}), *self.DEEDS),
            (("bulk", "line", (), "ready", False), *self.DEEDS), (("put", "order", 4, {}), *self.DEEDS),
            (("set", "line", 2, "order", None), ("set", "line", 2, "many", 1), ("remove", "line", 2)),
        ):
            self.check_is(True, deeds=deeds)

    def test_other_copies(self):
        for name, key in (
            ("sheet", 2), ("sheet", True), ("sheet", "1"), ("sheet", None), ("sheet", 0), ("sheet", (1,)), ("Sheet", 1),
            ("", 1), (None, 1), (["sheet"], 1), ("line", 2), ("order", 1), (1, "sheet"), (("sheet", 1), 1), ({}, {}),
            ("sheet", 10 ** 39),
        ):
            self.check_is(False, name=name, key=key)

    def test_books_that_are_kept(self):
        self.check_is(False, one=KEPT)
        self.check_is(False, one=KEPT, deeds=(("remove", "order", 1), ("put", "order", 1, {})))

    def test_any_number_of_rows(self):
        none = KEPT.only([])
        self.check_is(True, rows=(), deeds=(("put", "order", 5, {}),), key=5, one=none)
        self.check_is(True, rows=self.ROWS, deeds=(("put", "order", 5, {}),), key=5, one=none)
        self.check_is(False, rows=self.ROWS, deeds=(("put", "order", 5, {}), ("remove", "order", 5)), key=5, one=none)
        self.check_is(False, rows=self.ROWS, deeds=(("put", "order", 5, {}),), key=1, one=none)

    def test_collected_not_at_once(self):
        # At once the copy would be missing.
        one = KEPT.only([2])
        deeds = (("set", "line", 2, "many", 1), ("remove", "order", 1), ("put", "order", 1, {}))
        self.check_is(False, deeds=deeds, one=one)
        self.check_is(True, deeds=deeds[1:], one=one)

    def test_a_thousand_trails(self):
        lines = ["table cat", "link parent cat clear", "value name", "document tree"]
        way = "cat ~cat.parent parent ~cat.parent parent ~cat.parent"
        one = book(*lines, "read name " + way, "hook put behind tree cat")
        for many, wanted in ((10, True), (11, False)):
            rows = tuple(("cat", key, {"parent": 1}) for key in range(1, many + 1))
            self.check_is(wanted, rows, (("set", "cat", 2, "name", 5),), "tree", 1, one)
        # One trail more than a thousand is too many.
        more = book(*lines, "read name " + way, "read name cat", "hook put behind tree cat")
        rows = tuple(("cat", key, {"parent": 1}) for key in range(1, 11))
        self.check_is(False, rows, (("set", "cat", 2, "name", 5),), "tree", 1, more)
        self.check_is(True, rows[:9], (("set", "cat", 2, "name", 5),), "tree", 1, more)
        # A copy that is stale may have more trails than can be built.
        rows = tuple(("cat", key, {"parent": 1}) for key in range(1, 11))
        deeds = tuple(("put", "cat", key, {"parent": 1}) for key in range(11, 15))
        self.check_is(True, rows, deeds, "tree", 1, one)
        deeds = tuple(("put", "cat", key, {"parent": key}) for key in range(11, 15))
        self.check_is(False, rows, deeds, "tree", 1, one)


class AnyValue(unittest.TestCase):
    def test_values(self):
        for one in (KEPT, STALE, KEPT.only([])):
            for thing in ANYTHING:
                check_same(self, is_certificate(one, thing), False)

    def test_a_document_without_scenes_of_its_own(self):
        # There is always the new case.
        self.assertFalse(is_certificate(KEPT.only([]), ("kept", ())))


class AllCertificates(unittest.TestCase):
    def test_what_judge_returns_for_random_books(self):
        seen = {True: 0, False: 0}
        for at in range(120):
            source = random.Random(at)
            schema = (CHAIN, PAIR, RING, ROAD)[at % 4]
            one = full_book([random_document(source, schema, 3, 1), random_document(source, schema, 2, 1, "more")])
            others = [one]
            for _ in range(source.choice([0, 1, 2])):
                one = changed_book(source, one)
                others.append(one)
            for other in others:
                verdict = judge(other)
                seen[bool(verdict)] += 1
                check_same(self, is_certificate(other, verdict.certificate), True)
                # The certificate of another book shows something only if it does so for this one.
                before = judge(others[0]).certificate
                if not verdict:
                    check_same(self, is_certificate(other, before), False)
                    check_same(self, is_certificate(others[0], verdict.certificate), False)
        self.assertGreater(min(seen.values()), 30)

    def test_hooks_with_equal_ways(self):
        cat = Way(CHAIN, "cat parent ~cat.parent parent")
        document = full_book([random_document(random.Random(1), CHAIN, 1, 1)]).documents[0]
        hook = Hook(("set", "cat", "shown"), "ahead", cat, document.name)
        one = full_book([document]).plus(hook)
        check_same(self, is_certificate(one, judge(one).certificate), True)


if __name__ == "__main__":
    unittest.main()
