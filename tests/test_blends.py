"""Blends and exchanges (points 2, 8, 9 and the interface's part on blends.py)."""

import copy
import itertools
import unittest

from duskbook.blends import blended, exchanged, exchanged_evening
from duskbook.books import book_made, holds
from samples import KINDS, evenings_of, rules_of

BLENDED_COUNT = {"eithers": 3, "sums": 3, "ifs": 2, "nots": 2}


class Blending(unittest.TestCase):
    def assert_blended(self, kind, evenings, blend):
        rows = [list(evening) for evening in evenings]
        for handed in (evenings, tuple(evenings), rows, tuple(rows)):
            told = blended(kind, handed)
            self.assertEqual(repr(told), repr(blend))

    def test_eithers_lit_in_two_or_three(self):
        evenings = [(False, False, False, False, True, True, True, True),
                    (False, False, True, True, False, False, True, True),
                    (False, True, False, True, False, True, False, True)]
        self.assert_blended("eithers", evenings, (False, False, False, True, False, True, True, True))

    def test_sums_lit_in_one_or_three(self):
        evenings = [(False, False, False, False, True, True, True, True),
                    (False, False, True, True, False, False, True, True),
                    (False, True, False, True, False, True, False, True)]
        self.assert_blended("sums", evenings, (False, True, True, False, True, False, False, True))

    def test_ifs_lit_in_both(self):
        self.assert_blended("ifs", [(False, False, True, True), (False, True, False, True)], (False, False, False, True))

    def test_nots_lit_in_either(self):
        self.assert_blended("nots", [(False, False, True, True), (False, True, False, True)], (False, True, True, True))

    def test_evenings_of_length_none(self):
        for kind in KINDS:
            self.assert_blended(kind, [()] * BLENDED_COUNT[kind], ())

    def test_long_evenings(self):
        evening = tuple([beacon % 3 == 0 for beacon in range(60)])
        dark = (False,) * 60
        self.assert_blended("eithers", [evening, dark, evening], evening)
        self.assert_blended("sums", [evening, evening, evening], evening)
        self.assert_blended("sums", [dark, evening, evening], dark)
        self.assert_blended("ifs", [evening, dark], dark)
        self.assert_blended("nots", [evening, dark], evening)

    def test_a_blend_of_evenings_on_which_a_rule_holds_is_one_on_which_it_holds(self):
        for kind in KINDS:
            for rule in rules_of(kind, 3):
                book = (kind, (rule,))
                fine = [evening for evening in evenings_of(3) if holds(book, evening)]
                for evenings in itertools.product(fine, repeat=BLENDED_COUNT[kind]):
                    self.assertTrue(holds(book, blended(kind, evenings)), (book, evenings))

    def test_what_is_handed_in_is_not_changed(self):
        for kind in KINDS:
            evenings = [[True, False] for place in range(BLENDED_COUNT[kind])]
            before = copy.deepcopy(evenings)
            told = blended(kind, evenings)
            self.assertIsInstance(told, tuple)
            self.assertEqual(evenings, before)


class Exchanging(unittest.TestCase):
    def assert_exchanged(self, kind, rules, other_kind, turned):
        book = book_made(kind, rules)
        self.assertEqual(repr(exchanged(book)), repr((other_kind, tuple(turned))))
        self.assertEqual(repr(exchanged(exchanged(book))), repr(book))

    def test_eithers(self):
        rules = [((1, True), (2, False)), ((0, True),), (), ((5, False),), ((1, True), (2, False))]
        turned = [((1, False), (2, True)), ((0, False),), (), ((5, True),), ((1, False), (2, True))]
        self.assert_exchanged("eithers", rules, "eithers", turned)

    def test_an_either_with_both_sayings_of_one_beacon_is_in_order_anew(self):
        self.assert_exchanged("eithers", [((3, False), (3, True))], "eithers", [((3, False), (3, True))])

    def test_sums(self):
        rules = [((0,), True), ((0,), False), ((1, 2), True), ((1, 2), False), ((0, 1, 2), True), ((0, 1, 2), False),
                 ((0, 1, 2, 3), True), ((), True), ((), False)]
        turned = [((0,), False), ((0,), True), ((1, 2), True), ((1, 2), False), ((0, 1, 2), False), ((0, 1, 2), True),
                  ((0, 1, 2, 3), True), ((), True), ((), False)]
        self.assert_exchanged("sums", rules, "sums", turned)

    def test_ifs_and_nots(self):
        rules = [((0, 1), 2), ((), None), ((), 4), ((3,), None), ((5,), 5), ((0, 1), 2)]
        self.assert_exchanged("ifs", rules, "nots", rules)
        self.assert_exchanged("nots", rules, "ifs", rules)

    def test_no_rules(self):
        for kind, other in (("eithers", "eithers"), ("sums", "sums"), ("ifs", "nots"), ("nots", "ifs")):
            self.assert_exchanged(kind, [], other, [])

    def test_the_form_stays_that_of_a_made_book(self):
        for kind in KINDS:
            book = exchanged((kind, tuple(rules_of(kind, 2))))
            self.assertEqual(book_made(book[0], book[1]), book)

    def test_it_holds_on_the_exchanged_evening_just_where_the_book_does(self):
        for kind in KINDS:
            for rule in rules_of(kind, 3):
                book = (kind, (rule,))
                for evening in evenings_of(3):
                    self.assertEqual(holds(exchanged(book), exchanged_evening(evening)), holds(book, evening))

    def test_evenings(self):
        for evening in ((), (True,), (False,), (True, False, False)):
            for row in (evening, list(evening)):
                before = list(row)
                told = exchanged_evening(row)
                self.assertIsInstance(told, tuple)
                self.assertEqual(repr(told), repr(tuple([not lit for lit in evening])))
                self.assertEqual(exchanged_evening(told), evening)
                self.assertEqual(list(row), before)


if __name__ == "__main__":
    unittest.main()
