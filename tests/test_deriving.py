"""Derivations in books of ifs (points 2, 14 and the interface's part on deriving.py)."""

import itertools
import unittest

from duskbook.books import holds
from duskbook.deriving import derived, derived_in_full, is_derivation
from samples import evenings_of, rules_of, subsets

BOOK = ("ifs", (((0,), 1), ((1, 2), 3), ((), 2), ((3,), None), ((3,), 3), ((4, 5), 0)))


class IsDerivation(unittest.TestCase):
    def assert_derivation(self, facts, places, so, book=BOOK):
        for form in (tuple, list):
            handed = form(facts), form(places)
            with self.subTest(facts=facts, places=places):
                self.assertIs(is_derivation(book, handed[0], handed[1]), so)
                self.assertEqual(handed, (form(facts), form(places)))

    def test_no_places(self):
        self.assert_derivation([], [], True)
        self.assert_derivation([7, 3], [], True)
        self.assert_derivation([], [], True, ("ifs", ()))

    def test_no_facts(self):
        self.assert_derivation([], [2], True)
        self.assert_derivation([], [0], False)
        self.assert_derivation([], [2, 0], False)

    def test_a_body_of_facts_and_of_heads_ahead(self):
        self.assert_derivation([0], [0], True)
        self.assert_derivation([0], [0, 2, 1], True)
        self.assert_derivation([0], [2, 0, 1, 4], True)
        self.assert_derivation([1], [2, 1], True)
        self.assert_derivation([1, 2], [1], True)

    def test_a_body_that_is_not_yet_known(self):
        self.assert_derivation([0], [1], False)
        self.assert_derivation([0], [0, 1], False)
        self.assert_derivation([0], [0, 1, 2], False)
        self.assert_derivation([0], [1, 0, 2], False)
        self.assert_derivation([4], [5], False)
        self.assert_derivation([5], [5], False)
        self.assert_derivation([], [4], False)

    def test_facts_and_places_more_than_once(self):
        self.assert_derivation([0, 0, 5, 5], [0, 0, 2, 1, 2, 1], True)
        self.assert_derivation([0, 0], [0, 0, 1, 1], False)

    def test_a_rule_without_a_head(self):
        self.assert_derivation([3], [3], False)
        self.assert_derivation([0], [0, 2, 1, 3], False)
        self.assert_derivation([0], [0, 2, 1, 3, 4], False)
        self.assert_derivation([], [0], False, ("ifs", (((), None),)))

    def test_a_whole_number_that_is_no_place(self):
        for place in (-1, -6, -7, 6, 7, 60, 10 ** 30, -10 ** 30):
            self.assert_derivation(range(60), [place], False)
            self.assert_derivation(range(60), [2, place], False)
            self.assert_derivation(range(60), [place, 2], False)
        self.assert_derivation([], [0], False, ("ifs", ()))
        # From the end this would be a place of a rule that fits.
        self.assert_derivation([], [-1], False, ("ifs", (((), 3),)))

    def test_facts_that_no_rule_speaks_of(self):
        self.assert_derivation([59, 40], [2], True)

    def test_small_books_against_a_walk(self):
        rules = rules_of("ifs", 2)
        for book_rules in itertools.product(rules, repeat=2):
            for facts in subsets(range(2)):
                for places in itertools.product((-1, 0, 1, 2), repeat=2):
                    known, fine = set(facts), True
                    for step in places:
                        fine = fine and step in (0, 1) and set(book_rules[step][0]) <= known \
                            and book_rules[step][1] is not None
                        if fine:
                            known.add(book_rules[step][1])
                    self.assertIs(is_derivation(("ifs", book_rules), facts, places), fine, (book_rules, facts, places))
                    if fine:
                        self.assertEqual(derived(("ifs", book_rules), facts, places), sorted(known))


class Derived(unittest.TestCase):
    def assert_derived(self, facts, places, told, book=BOOK):
        for form in (tuple, list):
            handed = form(facts), form(places)
            with self.subTest(facts=facts, places=places):
                self.assertEqual(derived(book, handed[0], handed[1]), told)
                self.assertEqual(handed, (form(facts), form(places)))

    def test_the_facts_and_the_heads(self):
        self.assert_derived([], [], [])
        self.assert_derived([], [2], [2])
        self.assert_derived([0], [0], [0, 1])
        self.assert_derived([0], [2, 0, 1], [0, 1, 2, 3])

    def test_facts_in_any_order_and_more_than_once(self):
        self.assert_derived([59, 10, 9, 10], [], [9, 10, 59])
        self.assert_derived([10, 0, 9, 0], [2, 2, 0, 2], [0, 1, 2, 9, 10])

    def test_the_list_is_the_askers_own(self):
        facts = [4, 1]
        told = derived(BOOK, facts, [])
        self.assertIsInstance(told, list)
        told.append(9)
        self.assertEqual(facts, [4, 1])
        self.assertEqual(derived(BOOK, facts, []), [1, 4])


class DerivedInFull(unittest.TestCase):
    def assert_in_full(self, facts, told, book=BOOK):
        for row in (tuple(facts), list(facts)):
            with self.subTest(facts=row):
                answer = derived_in_full(book, row)
                self.assertIsInstance(answer, tuple)
                full, places = answer
                self.assertEqual(full, told)
                self.assertIsInstance(full, list)
                self.assertIsInstance(places, tuple)
                self.assertEqual(list(row), list(facts))
                self.walk(book, facts, places, told)

    def walk(self, book, facts, places, told):
        known = set(facts)
        for place in places:
            self.assertIn(place, range(len(book[1])))
            body, head = book[1][place]
            self.assertTrue(set(body) <= known, (book, facts, places))
            self.assertIsNotNone(head)
            known.add(head)
        self.assertEqual(sorted(known), told)
        self.assertTrue(is_derivation(book, facts, places))
        self.assertEqual(derived(book, facts, places), told)

    def test_from_no_facts(self):
        self.assert_in_full([], [2])
        self.assert_in_full([], [], ("ifs", ()))
        self.assert_in_full([], [], ("ifs", (((), None), ((0,), 1))))
        self.assert_in_full([], [0, 1, 2], ("ifs", (((1,), 2), ((0,), 1), ((), 0))))

    def test_from_some(self):
        self.assert_in_full([0], [0, 1, 2, 3])
        self.assert_in_full([4], [2, 4])
        self.assert_in_full([5, 4], [0, 1, 2, 3, 4, 5])
        self.assert_in_full([3], [2, 3])
        self.assert_in_full([9, 9, 7], [2, 7, 9])

    def test_rules_that_lead_round(self):
        book = ("ifs", (((0,), 1), ((1,), 0), ((2, 3), 2), ((3,), 3)))
        self.assert_in_full([], [], book)
        self.assert_in_full([1], [0, 1], book)
        self.assert_in_full([3], [3], book)

    def test_rules_that_stand_in_the_contrary_order(self):
        rules = [((beacon,), beacon + 1) for beacon in range(59)]
        for handed in (rules, rules[::-1]):
            self.assert_in_full([0], list(range(60)), ("ifs", tuple(handed)))
            self.assert_in_full([30], list(range(30, 60)), ("ifs", tuple(handed)))

    def test_long_bodies(self):
        rules = [(tuple(range(beacon)), beacon) for beacon in range(59, -1, -1)]
        self.assert_in_full([], list(range(60)), ("ifs", tuple(rules)))
        self.assert_in_full([], list(range(59)), ("ifs", tuple(rules[1:])))

    def test_somewhat_beyond_the_bounds(self):
        rules = tuple([((beacon,), beacon + 1) for beacon in range(70)])
        self.assert_in_full([0], list(range(71)), ("ifs", rules))

    def test_small_books_it_is_what_is_lit_wherever_the_rules_hold(self):
        # With heads alone the least evening that keeps the rules and has the facts lit is what is derived in full.
        rules = [rule for rule in rules_of("ifs", 3) if rule[1] is not None]
        for some in itertools.combinations(rules, 2):
            book = ("ifs", some)
            for facts in subsets(range(3)):
                fine = [evening for evening in evenings_of(3)
                        if holds(book, evening) and all(evening[fact] for fact in facts)]
                least = [beacon for beacon in range(3) if all(evening[beacon] for evening in fine)]
                self.assert_in_full(facts, least, book)

    def test_the_list_is_the_askers_own(self):
        facts = [0]
        full = derived_in_full(BOOK, facts)[0]
        full.clear()
        self.assertEqual(facts, [0])
        self.assertEqual(derived_in_full(BOOK, facts)[0], [0, 1, 2, 3])


if __name__ == "__main__":
    unittest.main()
