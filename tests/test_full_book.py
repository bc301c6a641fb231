"""Full books with about as many hooks as a book may have: what they are, and with how much work."""

import random
import sys
import unittest

from owedrebuilds.documents import Document
from owedrebuilds.fewest import full_book
from owedrebuilds.judging import judge
from owedrebuilds.schemas import Schema
from owedrebuilds.ways import Way
from helpers import check_error, check_same
from models import full_hooks_by_words, hook_lines
from samples import PAIR, RING, random_document

LINES = []
for at, name in enumerate("abcde"):
    LINES += ["table " + name, "value v", "flag f", "flag g"]
    if at > 0:
        LINES.append("link l " + "abcde"[at - 1] + " clear")
SCHEMA = Schema("\n".join(LINES))
READS = [(Way(SCHEMA, text), "v") for text in (
    "a ~b.l ~c.l ~d.l[f,g] ~e.l[f,g]", "a[f] ~b.l ~c.l ~d.l[f] ~e.l[f,g]",
    "a[g] ~b.l ~c.l ~d.l[g] ~e.l[f,g]", "a[f,g] ~b.l ~c.l ~d.l ~e.l[f,g]",
)]
BULK = (("a", "g"),)

# The hooks of the first three reads: (event, looks, way), a hook for each look.
HOOKS = [
    ("put", "behind", "a"),
    ("set l", "ahead behind", "b l"),
    ("set l", "ahead behind", "c l l"),
    ("set f", "ahead behind", "d[g] l l l"),
    ("set g", "ahead behind", "d[f] l l l"),
    ("set l", "ahead behind", "d[f,g] l l l"),
    ("set v", "behind", "e[f,g] l[f,g] l l l"),
    ("set f", "ahead behind", "e[g] l[f,g] l l l"),
    ("set g", "ahead behind", "e[f] l[f,g] l l l"),
    ("set l", "ahead behind", "e[f,g] l[f,g] l l l"),
    ("remove", "ahead", "e[f,g] l[f,g] l l l"),
    ("put", "behind", "e[f,g] l[f,g] l l l"),
    ("set f", "ahead behind", "a"),
    ("set l", "ahead behind", "b l[f]"),
    ("set l", "ahead behind", "c l l[f]"),
    ("set f", "ahead behind", "d l l l[f]"),
    ("set l", "ahead behind", "d[f] l l l[f]"),
    ("set v", "behind", "e[f,g] l[f] l l l[f]"),
    ("set f", "ahead behind", "e[g] l[f] l l l[f]"),
    ("set g", "ahead behind", "e[f] l[f] l l l[f]"),
    ("set l", "ahead behind", "e[f,g] l[f] l l l[f]"),
    ("remove", "ahead", "e[f,g] l[f] l l l[f]"),
    ("put", "behind", "e[f,g] l[f] l l l[f]"),
    ("set g", "ahead behind", "a"),
    ("set l", "ahead behind", "b l[g]"),
    ("set l", "ahead behind", "c l l[g]"),
    ("set g", "ahead behind", "d l l l[g]"),
    ("set l", "ahead behind", "d[g] l l l[g]"),
    ("set v", "behind", "e[f,g] l[g] l l l[g]"),
    ("set f", "ahead behind", "e[g] l[g] l l l[g]"),
    ("set g", "ahead behind", "e[f] l[g] l l l[g]"),
    ("set l", "ahead behind", "e[f,g] l[g] l l l[g]"),
    ("remove", "ahead", "e[f,g] l[g] l l l[g]"),
    ("put", "behind", "e[f,g] l[g] l l l[g]"),
]
WANTED = [f"hook {event} {look} a {way}" for event, looks, way in HOOKS for look in looks.split(" ")]


def chain_document(source):
    """A document with three or four reads like those above, each with any four flags."""
    reads = []
    for _ in range(source.choice([3, 4])):
        flags = source.sample([(at, flag) for at in range(5) for flag in "fg"], 4)
        way = Way(SCHEMA, "a ~b.l ~c.l ~d.l ~e.l")
        for at, flag in flags:
            way = way.asking(at, flag)
        reads.append((way, source.choice("vfg")))
    return Document("a", *reads)


def calls_of(action, *given, **named):
    """How many functions written in Python a call runs: the same on each machine, unlike its time."""
    counted = [0]

    def count(frame, event, worth):
        counted[0] += event == "call"

    before = sys.getprofile()
    sys.setprofile(count)
    try:
        action(*given, **named)
    except ValueError:
        pass
    finally:
        sys.setprofile(before)
    return counted[0]


class NearTheBound(unittest.TestCase):
    def test_three_reads(self):
        document = Document("a", *READS[:3])
        full = full_book([document])
        check_same(self, len(full), 58)
        check_same(self, hook_lines(full), WANTED)
        check_same(self, full.documents, (document,))
        check_same(self, full.bulk, ())
        check_same(self, bool(judge(full)), True)

    def test_three_reads_with_a_bulk_column(self):
        document = Document("a", *READS[:3])
        full = full_book([document], bulk=BULK)
        check_same(self, hook_lines(full), WANTED)
        check_same(self, full.bulk, BULK)
        # The third read asks this flag at its start.
        check_same(self, bool(judge(full)), False)

    def test_three_reads_by_the_words(self):
        document = Document("a", *READS[:3])
        check_same(self, [str(hook) for hook in full_hooks_by_words([document])], WANTED)

    def test_four_reads(self):
        document = Document("a", *READS)
        self.assertGreater(len(full_hooks_by_words([document])), 60)
        check_error(self, ("TooMany", "hooks"), full_book, [document])
        check_error(self, ("TooMany", "hooks"), full_book, [document], bulk=BULK)

    def test_the_order_of_errors(self):
        four = Document("a", *READS)
        more = Document("b", READS[0])
        check_error(self, ("BadBook", "documents", 1), full_book, [four, more], bulk=(None,))
        check_error(self, ("TooMany", "hooks"), full_book, [four], bulk=(None,))
        check_error(self, ("BadBook", "bulk", 1), full_book, [Document("a", *READS[:3])], bulk=(*BULK, None))

    def test_hooks_of_several_documents(self):
        once = [Document("a", READS[0], READS[0])]
        twice = [Document("a", READS[0]), Document("b", READS[0])]
        check_same(self, len(full_book(once)), 20)
        check_same(self, hook_lines(full_book(twice)), WANTED[:20] + [line.replace(" a ", " b ", 1) for line in WANTED[:20]])
        check_same(self, len(full_book([Document("a", READS[0]), Document("b", READS[0]), Document("c", READS[0])])), 60)
        check_error(self, ("TooMany", "hooks"), full_book, [
            Document("a", READS[0]), Document("b", READS[0]), Document("c", READS[0], (Way(SCHEMA, "a"), "f")),
        ])

    def test_by_the_words(self):
        source = random.Random(79)
        found = {True: 0, False: 0}
        for at in range(90):
            documents = [chain_document(source) if at % 3 else random_document(source, (PAIR, RING)[at % 2], 5, 4)]
            hooks = [str(hook) for hook in full_hooks_by_words(documents)]
            if len(hooks) > 60:
                check_error(self, ("TooMany", "hooks"), full_book, documents)
            else:
                check_same(self, hook_lines(full_book(documents)), hooks)
            if len(hooks) > 50:
                found[len(hooks) > 60] += 1
        self.assertGreater(min(found.values()), 10, found)


class Work(unittest.TestCase):
    def little(self, most, action, *given, **named):
        many = calls_of(action, *given, **named)
        self.assertGreater(many, 100)
        self.assertLess(many, most)

    def test_many_hooks(self):
        # With each hook compared with those before it, and each scene folded, these were 35000 and 24000.
        four, three = [Document("a", *READS)], [Document("a", *READS[:3])]
        self.little(4000, full_book, four)
        self.little(4000, full_book, three)
        self.little(4000, full_book, three, bulk=BULK)

    def test_equal_ways(self):
        schema = Schema("table cat\nlink a cat clear\nlink b cat clear\nflag f\nvalue v")
        texts = ["~cat.a a ~cat.b b ~cat.a", "~cat.b b ~cat.a a ~cat.b", "a ~cat.a a ~cat.b b", "~cat.a[f] a b ~cat.a a"]
        documents = [Document("doc", *[(Way(schema, "cat " + text), "v") for text in texts])]
        check_same(self, hook_lines(full_book(documents)), [str(hook) for hook in full_hooks_by_words(documents)])
        self.little(4000, full_book, documents)

    def test_hooks_that_are_compared(self):
        one, other = [list(full_book([Document("a", *READS[:3])])) for _ in range(2)]
        check_same(self, one == other, True)
        self.little(1800, one.__eq__, other)


if __name__ == "__main__":
    unittest.main()
