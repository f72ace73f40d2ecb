"""Sums of sums (points 2, 12, 13 and the interface's part on adding.py)."""

import itertools
import unittest

from duskbook.adding import added, reduced
from duskbook.books import book_made, broken_rules
from samples import evenings_of, rules_of, subsets

BOOK = ("sums", (((0, 2), True), ((2, 5), False), ((0, 5), True), ((), True), ((), False), ((0, 1, 2, 3), True)))


def small_books():
    """All books of up to three rules of two beacons, like ones among them, and some of four rules of three beacons."""
    for size in range(4):
        for rules in itertools.product(rules_of("sums", 2), repeat=size):
            yield ("sums", rules)
    for place, rules in enumerate(itertools.product(rules_of("sums", 3), repeat=4)):
        if place % 97 == 0:
            yield ("sums", rules)


class Adding(unittest.TestCase):
    def assert_added(self, places, rule, book=BOOK):
        for row in (tuple(places), list(places)):
            with self.subTest(places=row):
                self.assertEqual(repr(added(book, row)), repr(rule))
                self.assertEqual(list(row), list(places))

    def test_no_place_at_all(self):
        self.assert_added([], ((), False))
        self.assert_added([], ((), False), ("sums", ()))

    def test_one_place(self):
        for place, rule in enumerate(BOOK[1]):
            self.assert_added([place], rule)

    def test_two_places(self):
        self.assert_added([0, 1], ((0, 5), True))
        self.assert_added([0, 2], ((2, 5), False))
        self.assert_added([0, 3], ((0, 2), False))
        self.assert_added([0, 4], ((0, 2), True))
        self.assert_added([0, 5], ((1, 3), False))
        self.assert_added([3, 4], ((), True))

    def test_more_places(self):
        self.assert_added([0, 1, 2], ((), False))
        self.assert_added([0, 1, 2, 3], ((), True))
        self.assert_added([0, 1, 2, 3, 4, 5], ((0, 1, 2, 3), False))
        self.assert_added([0, 1, 5], ((1, 2, 3, 5), False))

    def test_a_place_twice_and_thrice(self):
        self.assert_added([0, 0], ((), False))
        self.assert_added([3, 3], ((), False))
        self.assert_added([0, 0, 0], ((0, 2), True))
        self.assert_added([3, 3, 3], ((), True))
        self.assert_added([0, 1, 0], ((2, 5), False))
        self.assert_added([5, 0, 5, 5, 0], ((0, 1, 2, 3), True))
        self.assert_added([0] * 201, ((0, 2), True))

    def test_places_in_any_order(self):
        for places in itertools.permutations([0, 1, 3, 5]):
            self.assert_added(places, ((1, 2, 3, 5), True))

    def test_the_beacons_rise_by_their_numbers(self):
        book = book_made("sums", [((59, 10), True), ((9, 2), True), ((1, 10, 30), False)])
        self.assert_added([0, 1, 2], ((1, 2, 9, 30, 59), False), book)
        self.assert_added([1, 0], ((2, 9, 10, 59), False), book)

    def test_like_rules_at_several_places(self):
        book = ("sums", (((3,), True),) * 3)
        self.assert_added([0, 1], ((), False), book)
        self.assert_added([2, 0, 1], ((3,), True), book)

    def test_somewhat_beyond_the_bounds(self):
        book = ("sums", tuple([((beacon, beacon + 1), True) for beacon in range(80)]))
        self.assert_added(range(80), ((0, 80), False), book)

    def test_on_each_evening_on_which_the_rules_hold_the_sum_holds(self):
        rules = rules_of("sums", 3)
        book = ("sums", tuple(rules))
        for places in itertools.combinations(range(len(rules)), 3):
            whole = ("sums", (added(book, places),))
            some = ("sums", tuple([rules[place] for place in places]))
            for evening in evenings_of(3):
                odd = len(broken_rules(some, evening)) % 2 == 1
                self.assertEqual(len(broken_rules(whole, evening)) == 1, odd, (places, evening))


class Reducing(unittest.TestCase):
    def assert_reduced(self, book):
        """All that point 13 says of what is told; tells it."""
        told = reduced(book)
        self.assertIsInstance(told, tuple)
        pairs, void = told
        self.assertIsInstance(pairs, list)
        lasts = []
        for pair in pairs:
            self.assertIsInstance(pair, tuple)
            places, rule = pair
            self.assert_places(book, places)
            self.assertEqual(repr(added(book, places)), repr(rule))
            self.assertTrue(rule[0], (book, pair))
            lasts.append(rule[0][-1])
        self.assertEqual(lasts, sorted(set(lasts)), book)
        if void is not None:
            self.assert_places(book, void)
            self.assertEqual(added(book, void), ((), True))
        return pairs, void, lasts

    def assert_places(self, book, places):
        self.assertIsInstance(places, tuple)
        self.assertTrue(places)
        self.assertEqual(list(places), sorted(set(places)))
        self.assertTrue(set(places) <= set(range(len(book[1]))))

    def test_a_book_without_rules(self):
        self.assertEqual(reduced(("sums", ())), ([], None))

    def test_rules_without_beacons(self):
        self.assertEqual(reduced(("sums", (((), False),))), ([], None))
        self.assertEqual(reduced(("sums", (((), False), ((), False)))), ([], None))
        self.assertEqual(reduced(("sums", (((), True),))), ([], (0,)))
        pairs, void, lasts = self.assert_reduced(("sums", (((), False), ((), True), ((), True))))
        self.assertEqual(pairs, [])
        self.assertIsNotNone(void)

    def test_one_rule(self):
        self.assertEqual(repr(reduced(("sums", (((0, 4), True),)))), "([((0,), ((0, 4), True))], None)")

    def test_like_rules(self):
        pairs, void, lasts = self.assert_reduced(("sums", (((0, 4), True),) * 3))
        self.assertEqual(lasts, [4])
        self.assertIsNone(void)

    def test_a_sum_that_is_empty_and_even(self):
        book = ("sums", (((0, 1), True), ((1, 2), True), ((0, 2), False)))
        pairs, void, lasts = self.assert_reduced(book)
        self.assertEqual(lasts, [1, 2])
        self.assertIsNone(void)

    def test_a_sum_that_is_void(self):
        book = ("sums", (((0, 1), True), ((1, 2), True), ((0, 2), True)))
        self.assertEqual(reduced(book)[1], (0, 1, 2))
        self.assertEqual(self.assert_reduced(book)[2], [1, 2])
        self.assertEqual(reduced(("sums", (((3,), True), ((7,), True), ((3,), False))))[1], (0, 2))

    def test_the_rules_are_told_by_their_last_beacons_rising(self):
        book = ("sums", (((9,), True), ((10,), True), ((2,), True), ((59,), False), ((0,), False)))
        self.assertEqual(self.assert_reduced(book)[2], [0, 2, 9, 10, 59])

    def test_rules_with_one_last_beacon(self):
        book = ("sums", (((0, 1, 9), True), ((1, 2, 9), False), ((2, 9), True), ((9,), True)))
        pairs, void, lasts = self.assert_reduced(book)
        self.assertEqual(lasts, [0, 1, 2, 9])
        self.assertIsNone(void)

    def test_sixty_rules_of_sixty_beacons(self):
        rules = [(tuple(range(beacon, 60)), beacon % 3 == 0) for beacon in range(60)]
        pairs, void, lasts = self.assert_reduced(("sums", tuple(rules)))
        self.assertEqual(lasts, list(range(60)))
        self.assertIsNone(void)

    def test_sixty_rules_with_one_contradiction(self):
        rules = [((beacon, beacon + 1), True) for beacon in range(59)] + [((0, 59), False)]
        pairs, void, lasts = self.assert_reduced(("sums", tuple(rules)))
        self.assertEqual(void, tuple(range(60)))
        self.assertEqual(lasts, list(range(1, 60)))

    def test_somewhat_beyond_the_bounds(self):
        rules = [((beacon, beacon + 1), True) for beacon in range(80)]
        self.assertEqual(self.assert_reduced(("sums", tuple(rules)))[2], list(range(1, 81)))

    def test_every_sum_of_small_books(self):
        for book in small_books():
            pairs, void, lasts = self.assert_reduced(book)
            sums = [added(book, places) for places in subsets(range(len(book[1])))]
            for whole in sums:
                if whole[0]:
                    self.assertIn(whole[0][-1], lasts, (book, whole))
            self.assertEqual(void is not None, ((), True) in sums, book)

    def test_the_list_is_the_askers_own_and_the_book_stays(self):
        book = ("sums", (((0,), True), ((1,), False)))
        first = reduced(book)[0]
        first.clear()
        self.assertEqual(len(reduced(book)[0]), 2)
        self.assertEqual(book, ("sums", (((0,), True), ((1,), False))))


if __name__ == "__main__":
    unittest.main()
