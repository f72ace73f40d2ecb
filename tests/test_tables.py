"""Tables of evenings (points 2, 3, 4, 5, 8, 23 and the interface's part on tables.py)."""

import copy
import itertools
import random
import unittest

from duskbook.books import book_made
from duskbook.errors import DuskError, NoTable
from duskbook.tables import table_told
from oddities import EqualToAll, Unequalled, named
from samples import KINDS, evenings_of, is_so, rules_of, spoken_of

COUNTS = {"eithers": 3, "sums": 3, "ifs": 2, "nots": 2}
NO_LENGTHS = [
    True, False, None, "", "0", "4", "abc", (), (2,), (1, 2), [], [2], [1, 2], -1, 5, 6, 60, -4, 10 ** 30, 2.0, 0.0, {},
    {2: 2}, {2}, b"2", object(), EqualToAll(), Unequalled(), int,
]


def blend_of(kind, evenings):
    """Blended once more, by other means than the program's."""
    lit = [sum(lights) for lights in zip(*evenings)]
    return tuple({"eithers": many > 1, "sums": many in (1, 3), "ifs": many == 2, "nots": many > 0}[kind]
                 for many in lit)


def evenings_where(kind, rules, length):
    return [evening for evening in evenings_of(length) if all(is_so(kind, rule, evening) for rule in rules)]


def all_tables(length):
    evenings = evenings_of(length)
    for size in range(len(evenings) + 1):
        yield from itertools.combinations(evenings, size)


def is_blended_in(kind, table):
    return all(blend_of(kind, group) in table for group in itertools.product(table, repeat=COUNTS[kind]))


class TableCase(unittest.TestCase):
    def assert_book(self, kind, length, table, told):
        self.assertIsInstance(told, tuple)
        word, book = told
        self.assertEqual(word, "book")
        self.assertEqual(book, book_made(kind, book[1]))
        self.assertEqual(repr(book), repr(book_made(kind, book[1])))
        self.assertLessEqual(len(book[1]), 60)
        for rule in book[1]:
            self.assertTrue(all(beacon < length for beacon in spoken_of(kind, rule)), (book, length))
        self.assertEqual(set(evenings_where(kind, book[1], length)), set(map(tuple, table)), (kind, length, table))

    def assert_blend(self, kind, length, table, told):
        self.assertIsInstance(told, tuple)
        word, evenings = told
        self.assertEqual(word, "blend")
        self.assertIsInstance(evenings, list)
        self.assertEqual(len(evenings), COUNTS[kind])
        rows = [tuple(evening) for evening in table]
        for evening in evenings:
            self.assertIsInstance(evening, tuple)
            self.assertIn(evening, rows)
        self.assertNotIn(blend_of(kind, evenings), rows, (kind, length, table))

    def assert_told(self, kind, length, table):
        told = table_told(kind, length, table)
        if told[0] == "book":
            self.assert_book(kind, length, table, told)
        else:
            self.assert_blend(kind, length, table, told)
        return told


class Told(TableCase):
    def test_every_table_of_short_evenings(self):
        for kind in KINDS:
            for length in range(4):
                for table in all_tables(length):
                    told = self.assert_told(kind, length, table)
                    # Never are there both, and never none.
                    self.assertEqual(told[0] == "book", is_blended_in(kind, table), (kind, length, table))
                    rules = [rule for rule in rules_of(kind, length) if all(is_so(kind, rule, evening) for evening in table)]
                    self.assertEqual(told[0] == "book", evenings_where(kind, rules, length) == list(table))

    def test_many_tables_of_four_beacons(self):
        evenings = evenings_of(4)
        for number, kind in enumerate(KINDS):
            draw = random.Random(f"tables of {kind}")
            for place in range(600):
                self.assert_told(kind, 4, draw.sample(evenings, draw.randint(0, 16)))

    def test_tables_of_books_of_four_beacons(self):
        for kind in KINDS:
            draw = random.Random(f"books of {kind}")
            rules = rules_of(kind, 4)
            for place in range(300):
                table = evenings_where(kind, draw.sample(rules, draw.randint(0, 5)), 4)
                self.assertEqual(self.assert_told(kind, 4, table)[0], "book", (kind, table))

    def test_tables_of_books_with_an_evening_more_or_less(self):
        for kind in KINDS:
            draw = random.Random(f"near books of {kind}")
            rules = rules_of(kind, 4)
            for place in range(300):
                table = set(evenings_where(kind, draw.sample(rules, draw.randint(0, 3)), 4))
                table ^= {draw.choice(evenings_of(4))}
                told = self.assert_told(kind, 4, sorted(table))
                self.assertEqual(told[0] == "book", is_blended_in(kind, table), (kind, table))

    def test_no_evenings_at_all(self):
        for kind, length, form in itertools.product(KINDS, range(5), (list, tuple)):
            self.assert_book(kind, length, [], table_told(kind, length, form()))

    def test_all_evenings(self):
        for kind, length in itertools.product(KINDS, range(5)):
            self.assert_book(kind, length, evenings_of(length), table_told(kind, length, evenings_of(length)))

    def test_one_evening(self):
        for kind, length in itertools.product(KINDS, range(5)):
            for evening in evenings_of(length):
                self.assert_book(kind, length, [evening], table_told(kind, length, [evening]))

    def test_all_evenings_but_one(self):
        for kind in KINDS:
            for evening in evenings_of(4):
                table = [other for other in evenings_of(4) if other != evening]
                self.assert_told(kind, 4, table)
        told = table_told("ifs", 2, [(False, False), (False, True), (True, True)])
        self.assert_book("ifs", 2, [(False, False), (False, True), (True, True)], told)

    def test_length_nought(self):
        for kind in KINDS:
            self.assertEqual(len(table_told(kind, 0, [])[1][1]), 1)
            self.assertEqual(evenings_where(kind, table_told(kind, 0, [()])[1][1], 0), [()])
            self.assert_book(kind, 0, [()], table_told(kind, 0, [[], (), []]))

    def test_plain_blends(self):
        exactly_one = [(True, False, False), (False, True, False), (False, False, True)]
        self.assert_blend("eithers", 3, exactly_one, table_told("eithers", 3, exactly_one))
        self.assert_blend("sums", 2, [(False, False), (False, True), (True, False)],
                          table_told("sums", 2, [(False, False), (False, True), (True, False)]))
        self.assert_blend("ifs", 2, [(False, True), (True, False)], table_told("ifs", 2, [(False, True), (True, False)]))
        self.assert_blend("nots", 2, [(False, True), (True, False)], table_told("nots", 2, [(False, True), (True, False)]))

    def test_evenings_in_any_order_and_twice_lists_and_tuples(self):
        tables = [
            [(False, False), (True, True)], [(False, True), (True, False)], [(True, True), (False, True), (True, False)],
            [(False, False), (False, True), (True, False)],
        ]
        for kind in KINDS:
            for table in tables:
                word = table_told(kind, 2, table)[0]
                for order in itertools.permutations(table):
                    for form, inner in itertools.product((list, tuple), repeat=2):
                        for row in (order, order + order, order + order[:1], order[-1:] + order):
                            handed = form(inner(evening) for evening in row)
                            self.assertEqual(self.assert_told(kind, 2, handed)[0], word)

    def test_what_is_handed_in_stays_and_what_is_told_is_new(self):
        for kind in KINDS:
            for table in ([[True, False], [False, True]], [[True, False], [True, False], [False, False], [True, True]]):
                kept = copy.deepcopy(table)
                first = table_told(kind, 2, table)
                self.assertEqual(table, kept)
                again = table_told(kind, 2, table)
                self.assertEqual(first, again)
                if first[0] == "blend":
                    self.assertIsNot(first[1], again[1])
                    first[1].clear()
                    self.assertEqual(len(table_told(kind, 2, table)[1]), COUNTS[kind])
                self.assertEqual(table, kept)


class Refused(TableCase):
    def assert_refused(self, kind, length, evenings):
        with self.assertRaises(NoTable) as caught:
            table_told(kind, length, evenings)
        self.assertIs(type(caught.exception), NoTable)
        self.assertIsInstance(caught.exception, DuskError)
        self.assertIsInstance(caught.exception, ValueError)

    def test_what_is_no_length(self):
        for kind in KINDS:
            for length in NO_LENGTHS:
                for evenings in ([], (), [()], [(True,)], [[True, False]], [(True,) * 5], [(True,), ()]):
                    with self.subTest(kind=kind, length=named(length), evenings=evenings):
                        self.assert_refused(kind, length, evenings)

    def test_an_evening_of_another_length_at_any_place(self):
        for kind in KINDS:
            for length in range(5):
                right = [(False,) * length, [True] * length, (False,) * length]
                self.assert_told(kind, length, right)
                for other in range(7):
                    if other != length:
                        for place, form in itertools.product(range(4), (list, tuple)):
                            evenings = right[:place] + [form((True,) * other)] + right[place:]
                            self.assert_refused(kind, length, evenings)
                            self.assert_refused(kind, length, tuple(evenings))
                        self.assert_refused(kind, length, [(False,) * other])

    def test_told_behind_a_refusal(self):
        for kind in KINDS:
            self.assert_refused(kind, 5, [])
            self.assert_refused(kind, 1, [()])
            self.assert_told(kind, 1, [(True,)])


if __name__ == "__main__":
    unittest.main()
