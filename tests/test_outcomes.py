"""Who wins (points 2, 3, 16, 17, 22 and the interface's part on outcomes.py)."""

import copy
import itertools
import unittest

from candidates import keeper_papers, storm_papers
from duskbook.blends import exchanged
from duskbook.books import book_made, left_behind
from duskbook.checking import good
from duskbook.outcomes import outcome
from duskbook.playing import said
from plays import OTHER, PaperCase, settled
from samples import KINDS, drawn_situations, evenings_of, keeper_wins, rows_of_hands, situations

K, S = "keeper", "storm"
VOID = {"eithers": (), "sums": ((), True), "ifs": ((), None), "nots": ((), None)}

# For each kind: rules that the keeper keeps with the hands (S, K), and that are lost with the hands (K, S).
LIKE = {
    "eithers": [[(0, False), (1, True)], [(0, True), (1, False)]], "sums": [([0, 1], False)],
    "ifs": [([0], 1), ([1], 0)], "nots": [([0], 1), ([1], 0)],
}


def chain(kind, count):
    """Rules by which each beacon but the first has the one ahead of it to go by."""
    if kind == "eithers":
        return [[(beacon, False), (beacon + 1, True)] for beacon in range(count - 1)]
    if kind == "sums":
        return [([beacon, beacon + 1], True) for beacon in range(count - 1)]
    return [([beacon], beacon + 1) for beacon in range(count - 1)]


def moved(kind, rule, places):
    """The rule with its beacons called otherwise."""
    if kind == "eithers":
        return tuple(sorted((places.get(beacon, beacon), lit) for beacon, lit in rule))
    body = tuple(sorted(places.get(beacon, beacon) for beacon in rule[0]))
    return (body, rule[1]) if kind == "sums" else (body, places.get(rule[1], rule[1]))


def pairs(kind):
    """Over all beacons, each odd one like the one ahead of it."""
    rules = book_made(kind, LIKE[kind])[1]
    return (kind, tuple(moved(kind, rule, {0: beacon, 1: beacon + 1}) for beacon in range(0, 60, 2) for rule in rules))


class OutcomeCase(PaperCase):
    def assert_outcome(self, book, hands, start, hand):
        return self.assert_told(outcome, book, hands, start, hand)


class Told(OutcomeCase):
    def test_each_kind_kept_and_lost(self):
        for kind in KINDS:
            book = book_made(kind, LIKE[kind])
            for hands, hand in (((S, K), K), ((K, S), S), ((K, K), K), ((S, S), S)):
                with self.subTest(kind=kind, hands=hands):
                    paper = self.assert_outcome(book, hands, 0, hand)
                    self.assert_wins(paper, book, hands, 0, hand)

    def test_the_start_is_nought_where_none_is_told(self):
        for kind in KINDS:
            for book, hands, start in situations(kind, 3, 1, 5):
                told = outcome(book, hands)
                self.assertEqual(told, outcome(book, hands, 0))
                self.assertTrue(good(told[1], book, hands, 0, told[0]))

    def test_no_rules(self):
        for kind in KINDS:
            for count in range(4):
                for hands in rows_of_hands(count):
                    for start in range(count + 1):
                        self.assert_outcome((kind, ()), hands, start, K)

    def test_no_hands(self):
        for kind in KINDS:
            self.assert_outcome((kind, ()), (), 0, K)
            self.assert_outcome((kind, (VOID[kind],)), (), 0, S)
        self.assert_outcome(("sums", (((), False),)), (), 0, K)

    def test_a_void_rule(self):
        for kind in KINDS:
            for hands in ((), (K,), (S,), (S, K, K, S)):
                for start in range(len(hands) + 1):
                    self.assert_outcome((kind, (VOID[kind],)), hands, start, S)
            for place in range(3):
                rules = list(book_made(kind, LIKE[kind] * 2)[1][:2])
                rules.insert(place, VOID[kind])
                self.assert_outcome((kind, tuple(rules)), (S, K), 0, S)

    def test_rules_without_beacons_that_are_not_void(self):
        book = book_made("sums", [([], False), ([0, 1], True), ([], False)])
        self.assert_outcome(book, (S, K), 0, K)
        self.assert_outcome(book, (K, S), 0, S)
        self.assert_outcome(book_made("sums", [([], False)]), (K, S), 2, K)

    def test_like_rules(self):
        for kind in KINDS:
            book = book_made(kind, LIKE[kind] * 3)
            self.assert_outcome(book, (S, K), 0, K)
            self.assert_outcome(book, (K, S), 0, S)

    def test_a_start_in_the_midst_and_at_the_end(self):
        for kind in KINDS:
            moved = [left_behind(book_made(kind, chain(kind, 3)), 0, lit) for lit in (False, True)]
            for book, hands in itertools.product(moved, rows_of_hands(3)):
                hand = K if keeper_wins(book, hands, (False,)) else S
                self.assert_outcome(book, hands, 1, hand)
            for hands in rows_of_hands(2):
                for evening in evenings_of(2):
                    watch = settled(book_made(kind, LIKE[kind]), hands, evening)
                    self.assert_outcome(watch.left(), hands, 2, watch.winner())

    def test_what_is_handed_in_stays(self):
        for kind in KINDS:
            for book, hands, start in situations(kind, 3, 2, 37):
                row = list(hands)
                kept = copy.deepcopy((book, row))
                outcome(book, row, start)
                self.assertEqual((book, row), kept)

    def test_nots_are_ifs_exchanged(self):
        for book, hands, start in situations("nots", 3, 2, 7):
            self.assertEqual(outcome(book, hands, start)[0], outcome(exchanged(book), hands, start)[0])
        book = book_made("nots", [([0], 1)])
        self.assertEqual(outcome(book, (S, K)), (K, ("rows", (1,), ((0, ()),))))
        self.assertEqual(outcome(book, (S, S)), (S, ("lone", 1, (), (0,))))
        self.assertEqual(outcome(book_made("nots", [([0], None)]), (S,)), (S, ("lone", None, (), (0,))))

    def test_it_is_told_alike_each_time(self):
        for kind in KINDS:
            for book, hands, start in situations(kind, 3, 2, 41):
                self.assertEqual(outcome(book, hands, start), outcome(book, list(hands), start))


class Great(OutcomeCase):
    def assert_great(self, book, hands, start, hand):
        paper = self.assert_outcome(book, hands, start, hand)
        rows = [[], [1] * 60, [0, 1] * 30, [1, 0, 0] * 20]
        for lit in (False, True):
            self.assert_wins_against(rows, paper, book, hands, hand, (lit,) * start)

    def test_chains(self):
        for kind in KINDS:
            book = book_made(kind, chain(kind, 60))
            self.assert_great(book, [S] + [K] * 59, 0, K)
            self.assert_great(book, [K] * 60, 0, K)
            self.assert_great(book, [S] * 60, 0, S)
            self.assert_great(book, [S] + [K] * 58 + [S], 0, S)
            self.assert_great(book_made(kind, chain(kind, 60)[30:]), [S] * 31 + [K] * 29, 30, K)
            self.assert_great(book_made(kind, chain(kind, 60)[30:]), [K] * 30 + [S] * 30, 30, S)

    def test_pairs(self):
        for kind in KINDS:
            book = pairs(kind)
            self.assert_great(book, [S, K] * 30, 0, K)
            self.assert_great(book, [S, K] * 29 + [K, S], 0, S)

    def test_no_rules_and_like_rules(self):
        for kind in KINDS:
            self.assert_great((kind, ()), [S, K] * 30, 0, K)
            self.assert_great(book_made(kind, (LIKE[kind] * 60)[:60]), [S, K] * 30, 0, K)
            self.assert_great(book_made(kind, (LIKE[kind] * 60)[:60]), [K, S] * 30, 0, S)


class ByTrying(OutcomeCase):
    def assert_as_tried(self, book, hands, start):
        hand = K if keeper_wins(book, hands, (False,) * start) else S
        paper = self.assert_outcome(book, hands, start, hand)
        self.assert_wins(paper, book, hands, start, hand)

    def test_two_beacons_and_three_rules(self):
        for kind in KINDS:
            for book, hands, start in situations(kind, 2, 3):
                self.assert_as_tried(book, hands, start)

    def test_three_beacons_and_two_rules(self):
        for kind, every in (("eithers", 3), ("sums", 2), ("ifs", 5), ("nots", 1)):
            for book, hands, start in situations(kind, 3, 2, every):
                self.assert_as_tried(book, hands, start)

    def test_more_beacons_and_rules(self):
        for kind in KINDS:
            for book, hands, start in drawn_situations(kind, 6, 7, 500):
                self.assert_as_tried(book, hands, start)

    def test_the_other_hand_has_no_good_paper(self):
        for kind, every in (("eithers", 11), ("sums", 7), ("ifs", 17), ("nots", 19)):
            for book, hands, start in situations(kind, 3, 2, every):
                hand = outcome(book, hands, start)[0]
                papers = storm_papers(book, hands, start) if hand == K else keeper_papers(book, hands, start)
                self.assertFalse(any(good(paper, book, hands, start, OTHER[hand]) for paper in papers))


class NeverALoss(OutcomeCase):
    """Point 3: what never turns a win of the keeper's into a loss."""

    def kept_ones(self, most=900):
        for kind in KINDS:
            drawn = itertools.chain(situations(kind, 3, 2, 3), drawn_situations(kind, 6, 7, most))
            for book, hands, start in drawn:
                if outcome(book, hands, start)[0] == K:
                    yield book, hands, start

    def test_a_beacon_handed_over_to_the_keeper(self):
        for book, hands, start in self.kept_ones():
            for beacon in range(len(hands)):
                if hands[beacon] == S:
                    handed = hands[:beacon] + (K,) + hands[beacon + 1:]
                    self.assert_outcome(book, handed, start, K)

    def test_a_rule_left_out(self):
        for book, hands, start in self.kept_ones():
            for place in range(len(book[1])):
                fewer = (book[0], book[1][:place] + book[1][place + 1:])
                self.assert_outcome(fewer, hands, start, K)

    def test_a_keepers_beacon_that_changes_places_with_a_storms_one_straight_behind_it(self):
        for book, hands, start in self.kept_ones():
            for beacon in range(start, len(hands) - 1):
                if hands[beacon:beacon + 2] == (K, S):
                    places = {beacon: beacon + 1, beacon + 1: beacon}
                    turned = (book[0], tuple(moved(book[0], rule, places) for rule in book[1]))
                    self.assert_outcome(turned, hands[:beacon] + (S, K) + hands[beacon + 2:], start, K)

    def test_great_ones(self):
        for kind in KINDS:
            book, hands = pairs(kind), (S, K) * 30
            self.assert_outcome(book, hands, 0, K)
            for beacon in range(0, 60, 7):
                self.assert_outcome(book, hands[:beacon] + (K,) + hands[beacon + 1:], 0, K)
                self.assert_outcome((kind, book[1][:beacon] + book[1][beacon + 1:]), hands, 0, K)
            for beacon in range(1, 59, 8):
                places = {beacon: beacon + 1, beacon + 1: beacon}
                turned = (kind, tuple(moved(kind, rule, places) for rule in book[1]))
                self.assert_outcome(turned, hands[:beacon] + (S, K) + hands[beacon + 2:], 0, K)


class StepByStep(OutcomeCase):
    def assert_kept_along(self, book, hands, evening, hand, paper, start, renewed):
        """Along all evenings from here on the hand that has won keeps its win, settling by its paper."""
        watch = settled(book, hands, evening)
        told = outcome(watch.left(), hands, len(evening))
        self.assertEqual(told[0], hand, (book, hands, evening))
        if watch.turn() is None:
            self.assertEqual(watch.winner(), hand)
            return
        if renewed:
            paper, start = told[1], len(evening)
        if watch.turn() == hand:
            left = settled(book, hands, evening[:start]).left()
            ways = [said(paper, left, hands, start, evening)]
        else:
            ways = [False, True]
        for lit in ways:
            self.assert_kept_along(book, hands, evening + (lit,), hand, paper, start, renewed)

    def test_by_the_first_paper_and_by_a_new_one_at_each_step(self):
        for kind, every in (("eithers", 7), ("sums", 3), ("ifs", 11), ("nots", 13)):
            drawn = itertools.chain(situations(kind, 3, 2, every), drawn_situations(kind, 5, 6, 150))
            for book, hands, start in drawn:
                hand, paper = outcome(book, hands)
                for renewed in (False, True):
                    self.assert_kept_along(book, hands, (), hand, paper, 0, renewed)

    def test_a_hand_that_has_not_won_may_win_by_the_other_ones_fault(self):
        for kind in KINDS:
            book = book_made(kind, LIKE[kind])
            self.assertEqual(outcome(book, (S, K))[0], K)
            lost = settled(book, (S, K), (False, True))
            self.assertEqual(outcome(lost.left(), (S, K), 2)[0], S)

    def test_sixty_beacons(self):
        for kind in KINDS:
            book = book_made(kind, chain(kind, 60))
            for hands in ([S] + [K] * 59, [S] + [K] * 58 + [S]):
                hand, paper = outcome(book, hands)
                watch = settled(book, hands, ())
                while watch.turn() is not None:
                    told = outcome(watch.left(), hands, len(watch.evening()))
                    self.assertEqual(told[0], hand)
                    lit = said(paper, book, hands, 0, watch.evening()) if watch.turn() == hand else True
                    watch.settle(lit)
                self.assertEqual(watch.winner(), hand)


if __name__ == "__main__":
    unittest.main()
