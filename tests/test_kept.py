import random
import unittest

from owedrebuilds.books import Book
from owedrebuilds.desks import Desk
from owedrebuilds.errors import OwedError
from owedrebuilds.fewest import full_book, least_sets, looks, may_ask
from owedrebuilds.judging import judge
from owedrebuilds.schemas import Schema
from helpers import check_same, random_cell, random_store
from samples import CHAIN, PAIR, RING, ROAD, asking, late_book, random_document, straight_document

MIX = Schema("\n".join([
    "table cat", "link parent cat cascade", "link house house clear", "flag shown", "value name",
    "table house", "link owner cat refuse", "flag open", "value number",
]))


def random_deed(source, now, book):
    """A deed of any form, which may be an error."""
    schema = book.schema
    table = source.choice(schema.tables)
    keys = {name: now.row_keys(name) for name in schema.tables}
    column = source.choice(schema.columns(table))
    cell = random_cell(source, schema, table, column, keys)
    key = source.choice(keys[table] or [1])
    chance = source.random()
    if book.bulk and chance < 0.15:
        table, column = source.choice(book.bulk)
        cell = random_cell(source, schema, table, column, keys)
        return ("bulk", table, tuple(keys[table]), column, cell)
    if chance < 0.35:
        cells = {name: random_cell(source, schema, table, name, keys) for name in schema.columns(table)}
        return ("put", table, source.randint(1, 8), cells)
    if chance < 0.5:
        return ("remove", table, key)
    return ("set", table, key, column, cell)


class Fresh(unittest.TestCase):
    """No transaction makes a copy stale on a desk of a book that is kept."""

    def check_fresh(self, source, book, times):
        """How many transactions were done; none leaves a stale copy."""
        done = 0
        for _ in range(times):
            desk = Desk(book, random_store(source, book.schema, 4), most=1000)
            for _ in range(4):
                now, deeds = desk.store(), []
                for _ in range(source.randint(1, 6)):
                    deed = random_deed(source, now, book)
                    try:
                        now.apply(deed)
                    except OwedError:
                        continue
                    deeds.append(deed)
                try:
                    desk.do(*deeds, at_once=source.random() < 0.5)
                except OwedError:
                    continue
                self.assertEqual(desk.stale(), [], (str(book), deeds))
                done += 1
        return done

    def schemas(self, many):
        for at in range(many):
            yield random.Random(at), (CHAIN, PAIR, RING, ROAD, MIX)[at % 5]

    def test_full_books(self):
        for source, schema in self.schemas(30):
            documents = [random_document(source, schema, 4, 1, name) for name in ("one", "two")]
            book = full_book(documents)
            self.assertTrue(judge(book))
            self.assertGreater(self.check_fresh(source, book, 12), 24)

    def test_full_books_with_bulk_columns_that_do_not_matter(self):
        checked = 0
        for source, schema in self.schemas(40):
            document = random_document(source, schema, 2, 1)
            columns = [(table, column) for table in schema.tables for column in schema.columns(table)]
            bulk = tuple(column for column in columns if judge(full_book([document], bulk=(column,))))
            book = full_book([document], bulk=bulk)
            self.assertTrue(judge(book))
            if bulk:
                checked += self.check_fresh(source, book, 8)
        self.assertGreater(checked, 100)

    def test_least_sets_and_looks(self):
        checked = 0
        for source, schema in self.schemas(60):
            full = full_book([random_document(source, schema, 2, 1)])
            if len(full) <= 10:
                book = full.only(source.choice(least_sets(full)))
                checked += self.check_fresh(source, book, 6)
                if len(book) <= 6:
                    choice = source.choice(looks(book))
                    turned = [hook.looking(look) for hook, look in zip(book, choice)]
                    checked += self.check_fresh(source, Book(book.documents, turned), 2)
        self.assertGreater(checked, 200)

    def test_conditions(self):
        checked = 0
        for source, schema in self.schemas(80):
            book = full_book([random_document(source, schema, 3, 1)])
            for number, hook in enumerate(book):
                for condition in may_ask(book, number)[:1]:
                    hooks = list(book)
                    hooks[number] = asking(hook, *condition)
                    checked += self.check_fresh(source, Book(book.documents, hooks), 1)
        self.assertGreater(checked, 100)

    def test_late_books(self):
        checked = 0
        for at in range(60):
            source = random.Random(at)
            book = late_book(source, full_book([straight_document(source, ROAD, 2, 2)]))
            if judge(book) and any(hook.look == "late" for hook in book):
                checked += self.check_fresh(source, book, 20)
        self.assertGreater(checked, 100)

    def test_books_that_are_not_kept_do_become_stale(self):
        # The random transactions are such as find what is stale.
        stale = 0
        for source, schema in self.schemas(30):
            full = full_book([random_document(source, schema, 2, 1)])
            least = full.only(least_sets(full)[0]) if len(full) <= 10 else full
            book = least.only(list(range(1, len(least))))
            self.assertFalse(judge(book))
            try:
                self.check_fresh(source, book, 3)
            except AssertionError:
                stale += 1
        self.assertGreater(stale, 20)

    def test_at_once_and_collected(self):
        source = random.Random(7)
        book = full_book([random_document(source, MIX, 3, 2)])
        check_same(self, bool(judge(book)), True)
        for _ in range(20):
            given = random_store(source, MIX, 4)
            one, other = Desk(book, given, most=1000), Desk(book, given, most=1000)
            now, deeds = given.duplicate(), []
            for _ in range(8):
                deed = random_deed(source, now, book)
                try:
                    now.apply(deed)
                except OwedError:
                    continue
                deeds.append(deed)
            run, run_at_once = one.do(*deeds), other.do(*deeds, at_once=True)
            check_same(self, (run.made, run.owed), (run_at_once.made, run_at_once.owed))
            self.assertLessEqual(run.built, run_at_once.built)
            check_same(self, one.copies(), other.copies())
            check_same(self, [one.content(*copy) for copy in one.copies()], [
                other.content(*copy) for copy in other.copies()
            ])


if __name__ == "__main__":
    unittest.main()
