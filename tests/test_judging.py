import random
import unittest

from owedrebuilds.books import Book
from owedrebuilds.desks import Desk
from owedrebuilds.fewest import full_book
from owedrebuilds.judging import Verdict, judge
from owedrebuilds.looker import is_certificate
from owedrebuilds.scenes import cover, scenes
from owedrebuilds.stores import Store
from helpers import check_same
from samples import CHAIN, PAIR, RING, ROAD, changed_book, random_document
from worlds import World

SHOP = [
    "table line", "value many", "link order order cascade", "flag ready", "table order", "flag paid",
]
SHEET = SHOP + ["document sheet", "read many order[paid] ~line.order[ready]"]
HOOKS = [
    "hook put behind sheet order", "hook set paid behind sheet order", "hook set many behind sheet line order",
    "hook set order ahead sheet line order", "hook set order behind sheet line order",
    "hook set ready behind sheet line order", "hook remove ahead sheet line order", "hook put behind sheet line order",
]
CAT = ["table cat", "link parent cat clear", "flag shown", "value name"]


def book(*lines):
    return Book.read("\n".join(lines))


def check_stale(case, one, verdict):
    """The certificate is one by a desk that runs its transaction."""
    word, rows, deeds, name, key = verdict.certificate
    check_same(case, (word, bool(verdict)), ("stale", False))
    case.assertIsInstance(rows, tuple)
    case.assertIsInstance(deeds, tuple)
    store = Store(one.schema, rows)
    check_same(case, list(rows), store.rows())
    check_same(case, len(verdict), len(rows) + len([deed for deed in deeds if deed[0] == "put"]))
    desk = Desk(one, store, most=1000)
    check_same(case, desk.stale(), [])
    desk.do(*deeds)
    case.assertIn((name, key), desk.stale())
    check_same(case, is_certificate(one, verdict.certificate), True)


def check_kept(case, one, verdict):
    """There is an answer for each scene, in their order, that covers it."""
    word, answers = verdict.certificate
    check_same(case, (word, bool(verdict), len(verdict)), ("kept", True, 0))
    case.assertIsInstance(answers, tuple)
    found = list(scenes(one))
    check_same(case, len(answers), len(found))
    for scene, pair in zip(found, answers):
        case.assertIsInstance(pair, tuple)
        number, trail = pair
        hook = one.hooks[number]
        check_same(case, (hook.event, hook.document), (scene.event, scene.document))
        case.assertIsNotNone(cover(scene, hook))
        store = scene.ahead() if hook.look == "ahead" else scene.behind()
        check_same(case, hook.way.is_trail(store, trail), True)
        check_same(case, (trail[0], trail[-1]), (scene.changed[1], scene.key))
    check_same(case, is_certificate(one, verdict.certificate), True)


class ByHand(unittest.TestCase):
    def kept(self, *lines):
        one = book(*lines)
        check_kept(self, one, judge(one))
        return judge(book=one)

    def stale(self, many, *lines):
        one = book(*lines)
        verdict = judge(one)
        check_stale(self, one, verdict)
        check_same(self, len(verdict), many)
        return verdict.certificate

    def test_kept(self):
        verdict = self.kept(*SHEET, *HOOKS)
        self.assertIsInstance(verdict, Verdict)
        self.assertTrue(verdict)
        numbers = [number for number, _ in verdict.certificate[1]]
        check_same(self, numbers, [0, 1, 1, 2, 3, 4, 5, 5, 6, 7])
        check_same(self, [trail for _, trail in verdict.certificate[1]], [(1,)] * 3 + [(2, 1)] * 7)

    def test_without_hooks(self):
        check_same(self, self.stale(1, *SHEET), (
            "stale", (), (("put", "order", 1, {"paid": False}),), "sheet", 1,
        ))

    def test_each_hook_of_the_sheet_is_needed(self):
        for at, (many, deed) in enumerate((
            (1, ("put", "order", 1, {"paid": False})),
            (2, ("set", "order", 1, "paid", False)),
            (2, ("set", "line", 2, "many", 1)),
            (2, ("set", "line", 2, "order", None)),
            (2, ("set", "line", 2, "order", 1)),
            (2, ("set", "line", 2, "ready", False)),
            (2, ("remove", "line", 2)),
            (2, ("put", "line", 2, {"many": 0, "order": 1, "ready": True})),
        )):
            certificate = self.stale(many, *SHEET, *HOOKS[:at], *HOOKS[at + 1:])
            check_same(self, certificate[2:], ((deed,), "sheet", 1))

    def test_the_usual_trap(self):
        # A line that moves: the old order is seen ahead only.
        certificate = self.stale(2, *SHEET, *[line for line in HOOKS if "set order ahead" not in line])
        check_same(self, certificate[1:], (
            (("line", 2, {"many": 0, "order": 1, "ready": True}), ("order", 1, {"paid": True})),
            (("set", "line", 2, "order", None),), "sheet", 1,
        ))

    def test_folded_rows_are_fewer(self):
        lines = CAT + ["document tree", "read name cat ~cat.parent", "hook put behind tree cat"]
        lines += ["hook set name behind tree cat parent", "hook remove ahead tree cat parent"]
        lines += ["hook put behind tree cat parent", "hook set parent behind tree cat parent"]
        check_same(self, self.stale(1, *lines), (
            "stale", (("cat", 1, {"parent": 1, "shown": False, "name": 0}),), (("set", "cat", 1, "parent", None),),
            "tree", 1,
        ))
        self.kept(*lines, "hook set parent ahead tree cat parent")

    def test_only_folded_rows_are_stale(self):
        # In the least store the way back leads through the other link; only a row that is its own parent parts them.
        lines = CAT + ["document tree", "read shown cat[shown] parent[shown]", "hook put behind tree cat"]
        lines += ["hook set parent behind tree cat", "hook set shown behind tree cat"]
        self.kept(*lines, "hook set shown ahead tree cat ~cat.parent", "hook set shown behind tree cat ~cat.parent")
        self.kept(*lines, "hook set shown behind tree cat ~cat.parent")
        lines = lines[:-1]
        check_same(self, self.stale(1, *lines, "hook set shown behind tree cat[shown]",
                                    "hook set shown behind tree cat ~cat.parent[shown]")[2],
                   (("set", "cat", 1, "shown", False),))

    def test_greater_stores_that_are_needed(self):
        # Row 2 of three changes, and row 1 is the copy. These hooks meet it where any two rows are one.
        lines = CAT + ["document tree", "read name cat parent parent", "hook put behind tree cat"]
        lines += ["hook set name behind tree cat ~cat.parent ~cat.parent"] + [
            f"hook set parent {look} tree {way}"
            for look in ("ahead", "behind") for way in ("cat", "cat parent", "cat parent ~cat.parent")
        ]
        check_same(self, self.stale(3, *lines)[2], (("set", "cat", 2, "parent", None),))
        self.kept(*lines, "hook set parent ahead tree cat ~cat.parent")
        self.stale(3, *lines, "hook set parent ahead tree cat ~cat.parent ~cat.parent")
        for at in (9, 10, 12, 13):
            self.stale(2, *lines[:at], *lines[at + 1:])

    def test_which_document(self):
        lines = SHOP + ["document first", "read paid order", "document second", "read paid order"]
        hooks = [f"hook {event} behind {name} order" for name in ("first", "second") for event in ("put", "set paid")]
        self.kept(*lines, *hooks)
        for at, name in enumerate(("first", "first", "second", "second")):
            check_same(self, self.stale(1, *lines, *hooks[:at], *hooks[at + 1:])[3], name)


class Bulk(unittest.TestCase):
    def check_bulk(self, column, certificate):
        one = book(*SHEET, *HOOKS, "bulk " + column)
        verdict = judge(one)
        if certificate is None:
            check_kept(self, one, verdict)
        else:
            check_stale(self, one, verdict)
            check_same(self, (len(verdict), *verdict.certificate[2:]), certificate)

    def test_columns_that_matter(self):
        self.check_bulk("order paid", (2, (("bulk", "order", (1,), "paid", False),), "sheet", 1))
        self.check_bulk("line many", (2, (("bulk", "line", (2,), "many", 1),), "sheet", 1))
        self.check_bulk("line order", (2, (("bulk", "line", (2,), "order", None),), "sheet", 1))
        self.check_bulk("line ready", (2, (("bulk", "line", (2,), "ready", False),), "sheet", 1))

    def test_columns_that_do_not(self):
        other = ["value other", "link friend order clear", "flag extra"]
        lines = SHEET[:6] + other + SHEET[6:]
        one = book(*lines, *HOOKS, "bulk order other", "bulk order friend", "bulk order extra")
        check_kept(self, one, judge(one))
        one = book(*lines, HOOKS[0], HOOKS[1] + "[extra]", *HOOKS[2:], "bulk order extra")
        check_stale(self, one, judge(one))

    def test_the_missing_copy_needs_fewer_rows(self):
        one = book(*SHEET, *HOOKS[1:], "bulk line many")
        check_same(self, len(judge(one)), 1)

    def test_folded(self):
        lines = CAT + ["document tree", "read name cat parent parent"]
        one = full_book(book(*lines).documents, bulk=(("cat", "name"),))
        check_same(self, (len(judge(one)), judge(one).certificate[2][0][0]), (1, "bulk"))
        check_stale(self, one, judge(one))


class AgainstAllSmallStores(unittest.TestCase):
    """No smaller store or transaction shows what a certificate shows."""

    def check_books(self, schema, seeds, most, steps):
        found = {}
        for seed in seeds:
            source = random.Random(seed)
            document = random_document(source, schema, source.choice(steps), source.choice([1, 1, 2]))
            one = full_book([document], bulk=self.random_bulk(source, schema))
            for _ in range(source.choice([0, 1, 1, 2, 3])):
                one = changed_book(source, one)
            self.check_least(one, most, found)
        return found

    def random_bulk(self, source, schema):
        if source.random() < 0.8:
            return ()
        table = source.choice(schema.tables)
        return ((table, source.choice(schema.columns(table))),)

    def check_least(self, one, most, found):
        verdict = judge(one)
        world = World(one)
        many = next((many for many in range(1, most + 1) if world.stale_by_one_change(many)), None)
        found[many] = found.get(many, 0) + 1
        if verdict:
            check_kept(self, one, verdict)
            self.assertIsNone(many, str(one))
        else:
            check_stale(self, one, verdict)
            self.assertEqual(many or max(len(verdict), most + 1), len(verdict), str(one))

    def test_a_table_that_links_to_itself(self):
        found = self.check_books(CHAIN, range(12), 3, (1, 2, 3))
        self.assertGreater(found[1], 1)
        self.assertGreater(found[None], 1)

    def test_books_that_are_nearly_full(self):
        # One hook of a full book is left out or turned round; three rows are the fewest now and then.
        found = {}
        for seed in (3, 5, 11, 13, 17, 21, 30, 31):
            source = random.Random(seed)
            one = full_book([random_document(source, CHAIN, 3, 1)])
            hooks = [hook for hook in one if hook.event != ("put", "cat") or len(hook.way)]
            hooks.pop(source.randrange(len(hooks)))
            new = [hook for hook in one if hook.event == ("put", "cat") and not len(hook.way)]
            self.check_least(Book(one.documents, [*new, *hooks]), 3, found)
        self.assertGreater(len(found), 1)

    def test_two_tables_that_link_to_each_other(self):
        found = self.check_books(PAIR, range(30), 3, (1, 2, 3))
        for many in (1, 2, None):
            self.assertGreater(found[many], 2, found)

    def test_two_links_of_one_table(self):
        found = self.check_books(RING, range(30), 2, (1, 2, 3))
        for many in (1, None):
            self.assertGreater(found[many], 2, found)

    def test_a_road_of_tables(self):
        found = self.check_books(ROAD, range(20), 2, (1, 2))
        for many in (1, 2, None):
            self.assertGreater(found[many], 1, found)


class Parts(unittest.TestCase):
    """A book of several documents is kept exactly if each document is, with the hooks that name it."""

    def test_random_books(self):
        source = random.Random(34)
        seen = {True: 0, False: 0}
        for at in range(80):
            schema = (CHAIN, PAIR, RING, ROAD)[at % 4]
            documents = [random_document(source, schema, 2, 1, name) for name in ("first", "second")]
            one = full_book(documents)
            for _ in range(source.choice([0, 0, 1, 1, 2])):
                one = changed_book(source, one)
            alone = [
                Book([document], [hook for hook in one if hook.document == document.name]) for document in documents
            ]
            verdicts = [judge(part) for part in alone]
            whole = judge(one)
            check_same(self, bool(whole), all([bool(verdict) for verdict in verdicts]))
            check_same(self, len(whole), min([len(verdict) for verdict in verdicts if not verdict], default=0))
            seen[bool(whole)] += 1
        self.assertGreater(min(seen.values()), 10)


def renamed(text, names):
    """The text of a book with other names of tables, columns and documents."""
    words = []
    word = ""
    for letter in text + "\n":
        if letter.isalpha():
            word += letter
        else:
            words += [names.get(word, word), letter]
            word = ""
    return "".join(words)[:-1]


class OtherWords(unittest.TestCase):
    """Names, rules of removal and the order of tables, columns, reads and hooks make no difference."""

    NAMES = {"cat": "zebra", "a": "zz", "b": "y", "c": "x", "parent": "apart", "other": "aa", "shown": "nosh",
             "name": "zip", "f": "z", "g": "e", "h": "d", "i": "u", "v": "q", "w": "r", "doc": "hat"}

    def same(self, one, other, verdict):
        self.assertEqual((bool(judge(other)), len(judge(other))), (bool(verdict), len(verdict)), str(one))

    def tables(self, lines):
        """The lines of a schema as lists that begin with a table."""
        found = []
        for line in lines:
            if line.startswith("table "):
                found.append([])
            found[-1].append(line)
        return found

    def test_random_books(self):
        source = random.Random(35)
        kept = {True: 0, False: 0}
        for at in range(60):
            schema = (CHAIN, PAIR, RING, ROAD)[at % 4]
            one = full_book([random_document(source, schema, 3, 2)])
            for _ in range(source.choice([0, 1, 1, 2])):
                one = changed_book(source, one)
            verdict = judge(one)
            kept[bool(verdict)] += 1
            self.check_variants(source, one, verdict)
        self.assertGreater(min(kept.values()), 10)

    def check_variants(self, source, one, verdict):
        text = str(one)
        self.same(one, Book.read(renamed(text, self.NAMES)), verdict)
        for rule in ("refuse", "clear", "cascade"):
            other = text
            for old in ("refuse", "clear", "cascade"):
                other = other.replace(" " + old + "\n", " " + rule + "\n")
            self.same(one, Book.read(other), verdict)
        lines = str(one.schema).split("\n")
        tables = [[table[0], *source.sample(table[1:], len(table) - 1)] for table in self.tables(lines)]
        source.shuffle(tables)
        rest = text.split("\n")[len(lines):]
        reads = [line for line in rest if line.startswith("read ")]
        hooks = [line for line in rest if line.startswith("hook ")]
        source.shuffle(reads)
        source.shuffle(hooks)
        mixed = [line for table in tables for line in table] + [rest[0], *reads, *hooks]
        self.same(one, Book.read("\n".join(mixed)), verdict)


if __name__ == "__main__":
    unittest.main()
