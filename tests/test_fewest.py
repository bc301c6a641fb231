import itertools
import random
import unittest

from owedrebuilds.books import Book
from owedrebuilds.documents import Document
from owedrebuilds.fewest import full_book, least_sets, looks, may_ask
from owedrebuilds.hooks import Hook
from owedrebuilds.judging import judge
from owedrebuilds.schemas import Schema
from owedrebuilds.ways import Way
from helpers import check_error, check_same, strict
from models import full_hooks_by_words, hook_lines
from samples import (
    CHAIN, PAIR, RING, ROAD, asking, changed_book, conditions, late_book, random_document, straight_document,
)

SHOP = [
    "table line", "value many", "link order order cascade", "flag ready", "flag public",
    "table order", "flag paid", "flag open",
]
SHEET = SHOP + ["document sheet", "read many order[paid] ~line.order[ready]"]
HOOKS = [
    "hook put behind sheet order", "hook set paid behind sheet order", "hook set many behind sheet line order",
    "hook set order ahead sheet line order", "hook set order behind sheet line order",
    "hook set ready behind sheet line order", "hook remove ahead sheet line order", "hook put behind sheet line order",
]
SCHEMA = Schema("\n".join(SHOP))


def book(*lines):
    return Book.read("\n".join(lines))


class FullBook(unittest.TestCase):
    def test_by_hand(self):
        plain = book(*SHEET)
        full = full_book(plain.documents)
        self.assertIsInstance(full, Book)
        self.assertEqual(full.documents, plain.documents)
        check_same(self, full.bulk, ())
        check_same(self, hook_lines(full), [
            "hook put behind sheet order", "hook set paid ahead sheet order", "hook set paid behind sheet order",
            "hook set many behind sheet line[ready] order[paid]",
            "hook set order ahead sheet line[ready] order[paid]", "hook set order behind sheet line[ready] order[paid]",
            "hook set ready ahead sheet line order[paid]", "hook set ready behind sheet line order[paid]",
            "hook remove ahead sheet line[ready] order[paid]", "hook put behind sheet line[ready] order[paid]",
        ])

    def test_first_position(self):
        # Row 1 is also the third of the read; the flags that are asked there are not those of the first position.
        way = "order ~line.order order[open,paid] ~line.order order"
        full = full_book(book(*SHOP, "document sheet", "read paid " + way).documents)
        check_same(self, hook_lines(full), [
            "hook put behind sheet order", "hook set paid ahead sheet order", "hook set paid behind sheet order",
            "hook set open ahead sheet order", "hook set open behind sheet order",
            "hook set order ahead sheet line order", "hook set order behind sheet line order",
            "hook remove ahead sheet line order", "hook put behind sheet line order",
            "hook set order ahead sheet line order[open,paid] ~line.order order",
            "hook set order behind sheet line order[open,paid] ~line.order order",
            "hook remove ahead sheet line order[open,paid] ~line.order order",
            "hook put behind sheet line order[open,paid] ~line.order order",
        ])

    def test_only_the_flag_of_the_event_is_left_out(self):
        way = "order[open,paid] ~line.order[public,ready]"
        full = full_book(book(*SHOP, "document sheet", "read many " + way).documents)
        check_same(self, [line for line in hook_lines(full) if "ahead" in line], [
            "hook set paid ahead sheet order[open]", "hook set open ahead sheet order[paid]",
            "hook set order ahead sheet line[public,ready] order[open,paid]",
            "hook set ready ahead sheet line[public] order[open,paid]",
            "hook set public ahead sheet line[ready] order[open,paid]",
            "hook remove ahead sheet line[public,ready] order[open,paid]",
        ])

    def test_documents_and_bulk_columns(self):
        one = book(*SHOP, "document first", "read paid order", "document second", "read open order", "read paid order")
        for documents in (list(one.documents), one.documents):
            full = full_book(documents=documents, bulk=(("line", "many"),))
            check_same(self, hook_lines(full), [
                f"hook {event} {name} order" for name, event in (
                    ("first", "put behind"), ("first", "set paid ahead"), ("first", "set paid behind"),
                    ("second", "put behind"), ("second", "set open ahead"), ("second", "set open behind"),
                    ("second", "set paid ahead"), ("second", "set paid behind"),
                )
            ])
            check_same(self, full.bulk, (("line", "many"),))
            self.assertTrue(judge(full))

    def test_bulk_columns_that_matter(self):
        plain = book(*SHEET)
        for column, kept in ((("order", "open"), True), (("order", "paid"), False), (("line", "many"), False)):
            check_same(self, bool(judge(full_book(plain.documents, bulk=(column,)))), kept)

    def test_by_the_words(self):
        source = random.Random(31)
        for at in range(100):
            schema = (CHAIN, PAIR, RING, ROAD)[at % 4]
            documents = [random_document(source, schema, 5, source.choice([1, 2]))]
            if source.random() < 0.4:
                documents.append(random_document(source, schema, 2, 1, "more"))
            full = full_book(documents)
            check_same(self, hook_lines(full), [str(hook) for hook in full_hooks_by_words(documents)])
            self.assertTrue(judge(full), str(full))
            for number, hook in enumerate(full):
                self.assertFalse(hook in full.only(list(range(number))))

    def test_errors_of_documents(self):
        plain = book(*SHEET).documents[0]
        check_error(self, ("BadBook", "documents", -1), full_book, [])
        check_error(self, ("BadBook", "documents", 1), full_book, [plain, plain])
        check_error(self, ("BadBook", "documents", 1), full_book, [plain, plain], bulk=(None,))
        check_error(self, ("BadBook", "documents", -1), full_book, (plain,) * 4, bulk=(None,))
        with self.assertRaises(TypeError):
            full_book([plain], (("line", "many"),))

    def test_errors_of_bulk_columns(self):
        plain = book(*SHEET).documents
        check_error(self, ("BadBook", "bulk", 0), full_book, plain, bulk=(None,))
        check_error(self, ("BadBook", "bulk", 1), full_book, plain, bulk=(("line", "many"), ["line", "ready"]))
        check_error(self, ("BadBook", "bulk", 1), full_book, plain, bulk=(("line", "many"), ("line", "many")))

    def test_more_than_sixty_hooks(self):
        schema = Schema("table cat\nlink a cat clear\nlink b cat clear\nflag f\nvalue v")

        def way(letters):
            steps = [f"~cat.{letter}[f]" for letter in letters[:3]]
            return Way(schema, " ".join(["cat[f]", *steps, "~cat." + letters[3]]))

        def document(*texts):
            return Document("doc", *[(way(letters), "v") for letters in texts])

        # Each read of four steps has 1 + 8 + 6 + 2 hooks of its own, and there are three that all of them have.
        one, two, three = document("aaaa"), document("aaaa", "bbbb"), document("aaaa", "bbbb", "abab")
        check_same(self, len(full_book([one])), 3 + 17)
        check_same(self, len(full_book([two])), 3 + 34)
        check_same(self, len(full_book([three])), len(full_hooks_by_words([three])))
        many = document("aaaa", "bbbb", "abab", "baba")
        self.assertGreater(len(full_hooks_by_words([many])), 60)
        check_error(self, ("TooMany", "hooks"), full_book, [many])
        check_error(self, ("TooMany", "hooks"), full_book, [many], bulk=(None,))
        check_error(self, ("BadBook", "documents", 1), full_book, [many, many], bulk=(None,))


def sets_by_words(one):
    """All least sets, by the verdict on every set."""
    for many in range(len(one) + 1):
        found = [numbers for numbers in itertools.combinations(range(len(one)), many) if judge(one.only(list(numbers)))]
        if found:
            return found
    return []


def looks_by_words(one):
    return [
        choice for choice in itertools.product(("ahead", "behind"), repeat=len(one))
        if judge(turned(one, choice))
    ]


def turned(one, choice):
    return Book(one.documents, [hook.looking(look) for hook, look in zip(one, choice)], bulk=one.bulk)


def conditions_by_words(one, number):
    found = []
    for condition in sorted(conditions(one.hooks[number])):
        if condition[1] not in one.hooks[number].way.asked[condition[0]]:
            hooks = list(one)
            hooks[number] = asking(hooks[number], *condition)
            if judge(Book(one.documents, hooks, bulk=one.bulk)):
                found.append(condition)
    return found


def small_books(seeds, most):
    """Random books of at most so many hooks, a third of them with late hooks."""
    for at in seeds:
        source = random.Random(at)
        if at % 3:
            schema = (CHAIN, PAIR, RING)[source.randrange(3)]
            one = full_book([random_document(source, schema, source.choice([1, 2]), 1)])
            for _ in range(source.choice([0, 0, 1])):
                one = changed_book(source, one)
        else:
            one = late_book(source, full_book([straight_document(source, ROAD, 2, 1)]))
        if len(one) <= most:
            yield one


class LeastSets(unittest.TestCase):
    def test_by_hand(self):
        check_same(self, least_sets(book(*SHEET, *HOOKS)), [tuple(range(8))])
        full = full_book(book(*SHEET).documents)
        check_same(self, least_sets(book=full), [
            (0, one, 3, 4, 5, other, 8, 9) for one in (1, 2) for other in (6, 7)
        ])
        twice = book(*SHOP, "document sheet", "read paid order", *[
            "hook put behind sheet order", "hook set paid behind sheet order",
        ] * 2)
        check_same(self, least_sets(twice), [(0, 1), (0, 3), (1, 2), (2, 3)])

    def test_random_books(self):
        kept = 0
        for one in small_books(range(60), 8):
            if judge(one):
                check_same(self, least_sets(one), sets_by_words(one))
                kept += 1
            else:
                check_error(self, ("NotKept",), least_sets, one)
        self.assertGreater(kept, 15)

    def test_late_books(self):
        lines = SHOP + ["document sheet", "read many order ~line.order[public,ready]", "hook put late sheet order"]
        lines += ["hook set many late sheet line order", "hook put late sheet line order"]
        lines += ["hook set order behind sheet line order", "hook remove ahead sheet line order"]
        one = book(
            *lines, "hook set order ahead sheet line[ready] order", "hook set order ahead sheet line[public] order",
            "hook set ready late sheet line order", "hook set public late sheet line order",
            "hook set ready ahead sheet line order",
        )
        # The last hook makes the change of its flag no free one, and then the link can be cut no more.
        check_same(self, least_sets(one), sets_by_words(one))
        check_same(self, least_sets(one), [(0, 1, 2, 3, 4, 5, 8, 9)])

    def test_ten_and_eleven_hooks(self):
        lines = [*SHOP, "document sheet", "read open order[paid]"] + ["hook put behind sheet order"] * 4
        lines += ["hook set paid behind sheet order"] * 3
        ten = book(*lines, *["hook set open behind sheet order"] * 3)
        found = least_sets(ten)
        check_same(self, (len(ten), len(found)), (10, 36))
        check_same(self, found, sorted(found))
        check_same(self, (found[0], found[-1]), ((0, 4, 7), (3, 6, 9)))
        check_error(self, ("TooMany", "hooks"), least_sets, ten.plus(ten.hooks[0]))
        check_error(self, ("TooMany", "hooks"), least_sets, ten.only([0] * 11))
        check_error(self, ("NotKept",), least_sets, ten.only([0]))
        check_error(self, ("NotKept",), least_sets, ten.only([]))

    def test_new_lists(self):
        one = book(*SHEET, *HOOKS)
        least_sets(one).clear()
        check_same(self, least_sets(one), [tuple(range(8))])


class Looks(unittest.TestCase):
    def test_by_hand(self):
        one = book(*SHOP, "document sheet", "read open order[paid]", *[
            f"hook {event} behind sheet order" for event in ("put", "set paid", "set open")
        ])
        check_same(self, looks(one), [
            ("behind", "ahead", "ahead"), ("behind", "ahead", "behind"),
            ("behind", "behind", "ahead"), ("behind", "behind", "behind"),
        ])
        check_same(self, looks(book=one.only([0, 1])), [])
        check_same(self, looks(one.only([])), [])

    def test_moves_need_both_looks(self):
        one = book(*SHOP, "document sheet", "read paid line order", *[
            "hook put behind sheet line", "hook set order behind sheet line",
            "hook set paid ahead sheet order ~line.order",
        ])
        check_same(self, looks(one), [
            ("behind", order, paid) for order in ("ahead", "behind") for paid in ("ahead", "behind")
        ])
        moves = book(*SHOP, "document sheet", "read ready order ~line.order", *[
            "hook put late sheet order", "hook set order late sheet line order",
            "hook set order ahead sheet line order", "hook remove ahead sheet line order",
            "hook put late sheet line order", "hook set ready late sheet line order",
        ])
        check_same(self, looks(moves), [
            ("behind", *order, "ahead", "behind", ready)
            for order in (("ahead", "behind"), ("behind", "ahead")) for ready in ("ahead", "behind")
        ])

    def test_random_books(self):
        kept = 0
        for one in small_books(range(100, 180), 6):
            found = looks(one)
            check_same(self, found, looks_by_words(one))
            kept += len(found) > 0
        self.assertGreater(kept, 15)

    def test_bulk_columns_that_matter(self):
        one = book(*SHOP, "document sheet", "read open order", *[
            f"hook {event} behind sheet order" for event in ("put", "set open")
        ])
        check_same(self, len(looks(one)), 2)
        check_same(self, looks(Book(one.documents, list(one), bulk=(("order", "open"),))), [])
        check_same(self, len(looks(Book(one.documents, list(one), bulk=(("order", "paid"),)))), 2)

    def test_six_and_seven_hooks(self):
        one = book(*SHOP, "document sheet", "read open order", *[
            f"hook {event} behind sheet order" for event in ("put", "set open") for _ in range(3)
        ])
        check_same(self, len(looks(one)), 7 * 8)
        check_error(self, ("TooMany", "hooks"), looks, one.plus(one.hooks[0]))
        check_error(self, ("TooMany", "hooks"), looks, one.only([0] * 7))


class MayAsk(unittest.TestCase):
    def test_by_hand(self):
        one = book(*SHEET, *HOOKS)
        for number, wanted in enumerate((
            [], [], [(0, "ready"), (1, "paid")], [(0, "ready"), (1, "paid")], [(0, "ready"), (1, "paid")],
            [(1, "paid")], [(0, "ready"), (1, "paid")], [(0, "ready"), (1, "paid")],
        )):
            check_same(self, may_ask(one, number), wanted)
        check_same(self, may_ask(book=one, number=2), [(0, "ready"), (1, "paid")])

    def test_hooks_that_are_not_needed(self):
        one = book(*SHEET, *HOOKS, "hook put behind sheet line[public] order[paid] ~line.order order")
        check_same(self, may_ask(one, 8), [
            (0, "ready"), (1, "open"), (2, "public"), (2, "ready"), (3, "open"), (3, "paid"),
        ])
        twice = book(*SHEET, *HOOKS, HOOKS[1])
        check_same(self, may_ask(twice, 1), [(0, "open"), (0, "paid")])

    def test_late_hooks(self):
        lines = SHOP + ["document sheet", "read many order ~line.order[public,ready]", "hook put late sheet order"]
        lines += ["hook set many late sheet line order", "hook put late sheet line order"]
        lines += ["hook set order behind sheet line order", "hook remove ahead sheet line order"]
        late = "hook set ready late sheet line order", "hook set public late sheet line order"
        one = book(*lines, "hook set order ahead sheet line order", *late)
        # Asked by the hook for the link, a flag that is made False ahead would set the link free.
        check_same(self, may_ask(one, 5), [])
        check_same(self, may_ask(one, 3), [(0, "public"), (0, "ready")])
        for number in range(len(one)):
            check_same(self, may_ask(one, number), conditions_by_words(one, number))
        # One late hook may ask the flag of the other, not both.
        check_same(self, (may_ask(one, 6), may_ask(one, 7)), ([(0, "public")], [(0, "ready")]))
        other = late[0].replace("line order", "line[public] order")
        asked = book(*lines, "hook set order ahead sheet line order", other, late[1])
        check_same(self, may_ask(asked, 7), [])

    def test_random_books(self):
        found = 0
        for one in small_books(range(200, 270), 12):
            for number in range(len(one)):
                if judge(one):
                    wanted = conditions_by_words(one, number)
                    check_same(self, may_ask(one, number), wanted)
                    found += len(wanted)
                else:
                    check_error(self, ("NotKept",), may_ask, one, number)
        self.assertGreater(found, 30)

    def test_not_kept(self):
        one = book(*SHEET, *HOOKS)
        check_error(self, ("NotKept",), may_ask, one.only([0, 1]), 1)
        check_error(self, ("NotKept",), may_ask, Book(one.documents, list(one), bulk=(("order", "paid"),)), 0)


class MoreHooks(unittest.TestCase):
    """Point 29: more hooks, another order and fewer flags keep what is kept."""

    def test_random_books(self):
        source = random.Random(29)
        checked = 0
        for one in small_books(range(300, 360), 12):
            if judge(one):
                checked += 1
                mixed = source.sample(list(one), len(one))
                self.assertTrue(judge(Book(one.documents, mixed)))
                more = changed_book(source, one)
                if len(more) > len(one):
                    self.assertTrue(judge(more))
                at = source.randrange(len(one))
                bare = Way(one.schema, "".join(strip_flags(str(one.hooks[at].way))))
                hooks = list(one)
                hooks[at] = Hook(hooks[at].event, hooks[at].look, bare, hooks[at].document)
                self.assertTrue(judge(Book(one.documents, hooks)), strict(str(one)))
        self.assertGreater(checked, 20)


def strip_flags(text):
    return " ".join(word.split("[")[0] for word in text.split(" "))


if __name__ == "__main__":
    unittest.main()
