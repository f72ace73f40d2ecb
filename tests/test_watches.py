"""Watches (points 2, 7, 19 and the interface's part on watches.py)."""

import itertools
import unittest

from duskbook import errors
from duskbook.books import book_made, left_behind
from duskbook.watches import Watch
from oddities import NO_HANDS, NO_TRUTHS, named
from samples import KINDS, evenings_of, is_so, rules_of

K, S = "keeper", "storm"
REFUSALS = ("NoBook", "NoHands", "Over", "NoLight", "NoneSettled", "NoTable", "NoPage", "NoPaper")


class Refusing(unittest.TestCase):
    def assert_refused(self, name, call, *handed):
        with self.assertRaises(errors.DuskError) as taken:
            call(*handed)
        self.assertIsInstance(taken.exception, ValueError)
        for other in REFUSALS:
            self.assertEqual(isinstance(taken.exception, getattr(errors, other)), other == name, other)


def state(watch):
    """All that a watch tells of itself."""
    return repr((watch.book, tuple(watch.hands), watch.turn(), watch.evening(), watch.left(), watch.winner()))


class Made(Refusing):
    def test_its_values(self):
        book = book_made("ifs", [([0], 1)])
        for hands in ((S, K), [S, K]):
            watch = Watch(book, hands)
            self.assertEqual(watch.book, book)
            self.assertEqual(list(watch.hands), [S, K])
            self.assertIsInstance(watch.hands, (list, tuple))

    def test_nothing_is_settled(self):
        for kind in KINDS:
            watch = Watch((kind, ()), [S, K])
            self.assertEqual(state(watch), repr(((kind, ()), (S, K), S, (), (kind, ()), None)))

    def test_no_beacons_is_won_at_once(self):
        void = {"eithers": (), "sums": ((), True), "ifs": ((), None), "nots": ((), None)}
        for kind in KINDS:
            for hands in ((), []):
                for rules, winner in (((), K), ((void[kind],), S)):
                    watch = Watch((kind, rules), hands)
                    self.assertEqual(watch.winner(), winner)
                    self.assertIsNone(watch.turn())
                    self.assertEqual(watch.evening(), ())
                    self.assertEqual(watch.left(), (kind, rules))
        self.assertEqual(Watch(("sums", (((), False),)), ()).winner(), K)

    def test_sixty_hands(self):
        hands = [K, S] * 30
        watch = Watch(book_made("sums", [(list(range(60)), True)]), hands)
        for beacon in range(60):
            self.assertEqual(watch.turn(), hands[beacon])
            self.assertEqual(watch.settle(beacon == 7), None if beacon < 59 else K)

    def test_the_row_of_hands_is_the_watchs_own(self):
        hands = [S, K]
        watch = Watch(book_made("ifs", [([0], 1)]), hands)
        hands[0] = K
        hands.append(S)
        self.assertEqual(list(watch.hands), [S, K])
        self.assertEqual(watch.turn(), S)
        watch.settle(True)
        hands.clear()
        self.assertEqual(watch.turn(), K)
        self.assertEqual(watch.settle(True), K)
        self.assertIsNone(watch.turn())

    def test_what_is_handed_in_is_not_changed(self):
        hands = [S, K]
        book = book_made("ifs", [([0], 1)])
        watch = Watch(book, hands)
        watch.settle(True)
        watch.settle(False)
        watch.back()
        self.assertEqual(hands, [S, K])
        self.assertEqual(book, ("ifs", (((0,), 1),)))


class HandsRefused(Refusing):
    def test_sixty_one_hands(self):
        for kind in KINDS:
            for count in (61, 62, 200):
                self.assert_refused("NoHands", Watch, (kind, ()), [K] * count)
                self.assert_refused("NoHands", Watch, (kind, ()), (S,) * count)

    def test_something_that_is_no_hand(self):
        for thing in NO_HANDS:
            with self.subTest(thing=named(thing)):
                for hands in ([thing], [thing, K], [S, thing, K], [K, S, thing], [K] * 59 + [thing], [thing] * 2):
                    self.assert_refused("NoHands", Watch, ("sums", ()), hands)
                    self.assert_refused("NoHands", Watch, ("sums", ()), tuple(hands))

    def test_a_beacon_without_a_hand(self):
        rules = {"eithers": [[(0, True), (2, False)]], "sums": [([0, 2], True)], "ifs": [([0, 2], 1)], "nots": [([2], 0)]}
        for kind in KINDS:
            book = book_made(kind, rules[kind])
            for hands in ([], [K], [K, S]):
                self.assert_refused("NoHands", Watch, book, hands)
                self.assert_refused("NoHands", Watch, book, tuple(hands))
            Watch(book, [K, S, S])
        for kind in ("ifs", "nots"):
            self.assert_refused("NoHands", Watch, book_made(kind, [([0], 1), ([], 2)]), [K, S])
            Watch(book_made(kind, [([0], 1), ([], 2)]), [K, S, K])
        self.assert_refused("NoHands", Watch, book_made("sums", [([59], True)]), [K] * 59)
        Watch(book_made("sums", [([59], True)]), [K] * 60)

    def test_the_row_of_hands_stays_as_it_was(self):
        hands = [K, "none"]
        self.assert_refused("NoHands", Watch, ("sums", ()), hands)
        self.assertEqual(hands, [K, "none"])


class Settling(Refusing):
    def test_ahead_of_each_beacon_and_behind_the_last(self):
        book = book_made("ifs", [([0], 1), ([1, 2], None)])
        watch = Watch(book, [S, K, S])
        self.assertEqual(state(watch), repr((book, (S, K, S), S, (), book, None)))
        self.assertIsNone(watch.settle(True))
        self.assertEqual(state(watch), repr((book, (S, K, S), K, (True,), ("ifs", (((), 1), ((1, 2), None))), None)))
        self.assertIsNone(watch.settle(True))
        self.assertEqual(state(watch), repr((book, (S, K, S), S, (True, True), ("ifs", (((2,), None),)), None)))
        self.assertEqual(watch.settle(False), K)
        self.assertEqual(state(watch), repr((book, (S, K, S), None, (True, True, False), ("ifs", ()), K)))

    def test_a_rule_that_is_broken_early_is_told_behind_the_last(self):
        watch = Watch(book_made("eithers", [[(0, True)]]), [S, K])
        self.assertIsNone(watch.settle(False))
        self.assertEqual(watch.left(), ("eithers", ((),)))
        self.assertIsNone(watch.winner())
        self.assertEqual(watch.settle(True), S)
        self.assertEqual(watch.winner(), S)

    def test_every_rule_and_evening_of_three_beacons(self):
        for kind in KINDS:
            for rule in rules_of(kind, 3):
                book = (kind, (rule,))
                for evening in evenings_of(3):
                    watch = Watch(book, [K, S, K])
                    left = book
                    for beacon, lit in enumerate(evening):
                        self.assertEqual(watch.turn(), [K, S, K][beacon])
                        self.assertIsNone(watch.winner())
                        told = watch.settle(lit)
                        left = left_behind(left, beacon, lit)
                        self.assertEqual(repr(watch.left()), repr(left))
                        self.assertEqual(repr(watch.evening()), repr(evening[:beacon + 1]))
                        self.assertEqual(told, watch.winner())
                    self.assertEqual(told, K if is_so(kind, rule, evening) else S, (rule, evening))
                    self.assertIsNone(watch.turn())
                    self.assertEqual(watch.book, book)

    def test_all_rules_are_asked(self):
        book = book_made("sums", [([0], True), ([1], True)])
        for evening in itertools.product((False, True), repeat=2):
            watch = Watch(book, [K, K])
            watch.settle(evening[0])
            self.assertEqual(watch.settle(evening[1]), K if all(evening) else S)

    def test_a_beacon_that_no_rule_speaks_of(self):
        watch = Watch(book_made("sums", [([0], True)]), [K, S, S])
        watch.settle(True)
        watch.settle(False)
        self.assertEqual(watch.turn(), S)
        self.assertIsNone(watch.winner())
        self.assertEqual(watch.settle(True), K)

    def test_what_was_told_before_stays_as_it_was(self):
        watch = Watch(book_made("sums", [([0, 1], True)]), [K, S])
        told = [watch.evening(), watch.left(), watch.hands, watch.book]
        before = repr(told)
        watch.settle(True)
        told += [watch.evening(), watch.left()]
        between = repr(told)
        watch.settle(True)
        watch.back()
        watch.back()
        watch.settle(False)
        self.assertEqual(repr(told), between)
        self.assertEqual(repr(told[:4]), before)
        self.assertIsInstance(told[0], tuple)

    def test_two_watches_of_one_book(self):
        book = book_made("sums", [([0, 1], True)])
        hands = [K, S]
        one, other = Watch(book, hands), Watch(book, hands)
        before = state(other)
        one.settle(True)
        self.assertEqual(state(other), before)
        other.settle(False)
        self.assertEqual(one.evening(), (True,))
        self.assertEqual(one.settle(False), K)
        self.assertEqual(other.settle(False), S)
        one.back()
        self.assertEqual(other.evening(), (False, False))
        self.assertEqual(one.evening(), (True,))


class TakingBack(Refusing):
    def test_its_truth_is_told(self):
        watch = Watch(("sums", ()), [K, S, K])
        for lit in (True, False, True):
            watch.settle(lit)
        for lit in (True, False, True):
            self.assertIs(watch.back(), lit)
        self.assertEqual(watch.evening(), ())

    def test_all_is_as_it_was(self):
        book = book_made("nots", [([0], 1), ([2], None)])
        for evening in evenings_of(3):
            watch = Watch(book, [S, K, S])
            states = []
            for lit in evening:
                states.append(state(watch))
                watch.settle(lit)
            for lit in evening[::-1]:
                self.assertIs(watch.back(), lit)
                self.assertEqual(state(watch), states.pop())

    def test_settled_again_in_another_way(self):
        watch = Watch(book_made("eithers", [[(0, True), (1, True)]]), [S, K])
        watch.settle(False)
        self.assertEqual(watch.settle(False), S)
        self.assertIs(watch.back(), False)
        self.assertIsNone(watch.winner())
        self.assertEqual(watch.turn(), K)
        self.assertEqual(watch.settle(True), K)
        self.assertEqual(watch.evening(), (False, True))
        watch.back()
        watch.back()
        watch.settle(True)
        self.assertEqual(watch.left(), ("eithers", ()))
        self.assertEqual(watch.settle(False), K)


class Refused(Refusing):
    def test_none_settled(self):
        for hands in ([], [K], [S, K]):
            watch = Watch(("sums", ()), hands)
            before = state(watch)
            self.assert_refused("NoneSettled", watch.back)
            self.assertEqual(state(watch), before)

    def test_none_settled_behind_all_taken_back(self):
        watch = Watch(("sums", ()), [K, S])
        watch.settle(True)
        watch.back()
        self.assert_refused("NoneSettled", watch.back)
        self.assertIsNone(watch.settle(False))
        self.assertEqual(watch.evening(), (False,))

    def test_over_whatever_is_handed_in(self):
        for hands in ([], [K], [K, S]):
            watch = Watch(("sums", ()), hands)
            for hand in hands:
                watch.settle(True)
            before = state(watch)
            for thing in NO_TRUTHS + [True, False]:
                with self.subTest(thing=named(thing)):
                    self.assert_refused("Over", watch.settle, thing)
                    self.assertEqual(state(watch), before)

    def test_over_no_more_where_one_is_taken_back(self):
        watch = Watch(("sums", ()), [K])
        watch.settle(True)
        self.assert_refused("Over", watch.settle, True)
        watch.back()
        self.assertEqual(watch.settle(False), K)

    def test_no_light(self):
        watch = Watch(book_made("sums", [([0, 1], True)]), [K, S])
        for settled in range(2):
            before = state(watch)
            for thing in NO_TRUTHS:
                with self.subTest(thing=named(thing)):
                    self.assert_refused("NoLight", watch.settle, thing)
                    self.assertEqual(state(watch), before)
            watch.settle(True)


if __name__ == "__main__":
    unittest.main()
