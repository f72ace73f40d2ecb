"""Who wins books of sums (points 2, 15, 16, 17, 22 and the interface's part on sumways.py)."""

import unittest

from duskbook.books import book_made
from duskbook.sumways import sum_outcome
from plays import PaperCase
from samples import drawn_situations, keeper_wins, situations

K, S = "keeper", "storm"


class SumCase(PaperCase):
    def assert_lost(self, rules, hands, start=0):
        book = book_made("sums", rules)
        paper = self.assert_told(sum_outcome, book, hands, start, S)
        self.assert_wins(paper, book, hands, start, S)
        return paper

    def assert_kept(self, rules, hands, start=0):
        book = book_made("sums", rules)
        paper = self.assert_told(sum_outcome, book, hands, start, K)
        self.assert_wins(paper, book, hands, start, K)
        return list(paper[1])


class Lost(SumCase):
    def test_a_void_rule(self):
        for hands in ((), (K,), (S,), (K, S, K)):
            for start in range(len(hands) + 1):
                self.assert_lost([([], True)], hands, start)
        self.assert_lost([([0], True), ([], False), ([], True)], (K,))

    def test_a_void_sum(self):
        self.assertEqual(self.assert_lost([([0], True), ([0], False)], (K,)), ("odd", (0, 1)))
        self.assertEqual(self.assert_lost([([0, 1], True), ([1, 2], True), ([0, 2], True)], (K, K, K)),
                         ("odd", (0, 1, 2)))
        self.assertEqual(self.assert_lost([([2], True), ([1], True), ([2], False)], (S, K, K), 1), ("odd", (0, 2)))

    def test_a_rule_whose_last_beacon_is_the_storms(self):
        self.assertEqual(self.assert_lost([([0], True)], (S,)), ("odd", (0,)))
        self.assertEqual(self.assert_lost([([0], False)], (S,)), ("odd", (0,)))
        self.assertEqual(self.assert_lost([([0], True), ([0, 1], False)], (K, S)), ("odd", (1,)))
        self.assertEqual(self.assert_lost([([1, 2, 3], True)], (S, K, K, S), 1), ("odd", (0,)))

    def test_a_sum_whose_last_beacon_is_the_storms(self):
        self.assertEqual(self.assert_lost([([0, 2], True), ([1, 2], True)], (K, S, K)), ("odd", (0, 1)))
        self.assertEqual(self.assert_lost([([0, 3], True), ([1, 3], False), ([0, 2], True), ([1, 3], False)],
                                          (S, S, K, K))[0], "odd")
        self.assertEqual(self.assert_lost([([2], False), ([1, 2], True)], (K, S, K), 1), ("odd", (0, 1)))

    def test_all_hands_the_storms(self):
        self.assert_lost([([0, 1], True)], (S, S))
        self.assert_lost([([0, 1], True), ([0, 1], True)], (S, S))


class Kept(SumCase):
    def test_no_rules(self):
        for hands in ((), (K,), (S,), (K, S), (S, K), (S, S), (K, K, S, K)):
            for start in range(len(hands) + 1):
                rows = self.assert_kept([], hands, start)
                self.assertEqual([row[0] for row in rows],
                                 [beacon for beacon in range(start, len(hands)) if hands[beacon] == K])

    def test_rules_without_beacons_that_are_not_void(self):
        for hands in ((), (K,), (S,), (S, K)):
            for start in range(len(hands) + 1):
                self.assert_kept([([], False), ([], False)], hands, start)

    def test_rows_of_no_beacons(self):
        self.assertEqual(self.assert_kept([([0], True), ([1], False)], (K, K)), [(0, (), True), (1, (), False)])
        self.assertEqual(self.assert_kept([([2], True)], (S, K, K), 2), [(2, (), True)])

    def test_rows_of_one_beacon(self):
        self.assertEqual(self.assert_kept([([0, 1], False)], (S, K)), [(1, (0,), False)])
        self.assertEqual(self.assert_kept([([0, 1], True)], (S, K)), [(1, (0,), True)])
        self.assertEqual(self.assert_kept([([1, 2], True)], (K, S, K), 1), [(2, (1,), True)])

    def test_rows_of_many_beacons(self):
        self.assertEqual(self.assert_kept([([0, 1, 2, 3], True)], (S, S, S, K)), [(3, (0, 1, 2), True)])
        rows = self.assert_kept([([0, 1, 2], True), ([2, 3, 4], True), ([0, 5], False)], (S, S, K, S, K, K))
        self.assertEqual(rows, [(2, (0, 1), True), (4, (0, 1, 3), False), (5, (0,), False)])

    def test_keepers_beacons_within_a_rule(self):
        rows = self.assert_kept([([0, 1], True), ([1, 2], True), ([2, 3], True)], (S, K, K, K))
        self.assertEqual(rows, [(1, (0,), True), (2, (0,), False), (3, (0,), True)])

    def test_beacons_that_no_rule_asks_for(self):
        rows = self.assert_kept([([0, 1, 3], True)], (S, K, K, K))
        self.assertEqual([row[0] for row in rows], [1, 2, 3])

    def test_rules_that_are_sums_of_others(self):
        self.assertEqual(self.assert_kept([([0, 1], True), ([0, 1], True)], (S, K)), [(1, (0,), True)])
        rows = self.assert_kept([([0, 1], True), ([1, 2], True), ([0, 2], False)], (S, K, K))
        self.assertEqual(rows, [(1, (0,), True), (2, (0,), False)])

    def test_rules_with_the_same_last_beacon(self):
        self.assertEqual(self.assert_kept([([0, 2], True), ([0, 1, 2], True)], (S, K, K)),
                         [(1, (), False), (2, (0,), True)])

    def test_all_settled(self):
        self.assertEqual(self.assert_kept([], (K, S, K), 3), [])
        self.assertEqual(self.assert_kept([([], False)], (K, S, K), 3), [])


class Great(SumCase):
    def assert_great(self, rules, hands, hand, start=0):
        book = book_made("sums", rules)
        paper = self.assert_told(sum_outcome, book, hands, start, hand)
        rows = [[], [1] * 60, [0, 1] * 30, [1, 1, 0] * 20]
        self.assert_wins_against(rows, paper, book, hands, hand, (True,) * start)
        return paper

    def test_a_chain_over_all_beacons(self):
        chain = [([beacon, beacon + 1], True) for beacon in range(59)]
        paper = self.assert_great(chain, [S] + [K] * 59, K)
        self.assertEqual(paper[1], tuple((beacon, (0,), beacon % 2 == 1) for beacon in range(1, 60)))
        self.assert_great(chain, [K] * 60, K)
        self.assert_great(chain, [K] * 59 + [S], S)
        self.assert_great(chain, [S] + [K] * 28 + [S] + [K] * 30, S)
        paper = self.assert_great(chain + [([0, 59], False)], [K] * 60, S)
        self.assertEqual(paper, ("odd", tuple(range(60))))
        self.assert_great(chain + [([0, 59], True)], [K] * 60, K)

    def test_sums_of_all_beacons(self):
        heaps = [(range(beacon + 1), beacon % 2 == 0) for beacon in range(60)]
        self.assert_great(heaps, [K] * 60, K)
        self.assert_great(heaps, [S] + [K] * 59, S)
        self.assert_great(heaps[1:], [S] + [K] * 59, K)
        self.assert_great([(range(60), True)] * 60, [S] * 59 + [K], K)
        self.assert_great([(range(60), True)] * 60, [K] * 59 + [S], S)

    def test_keepers_behind_storms(self):
        mixed = [([other for other in range(30) if other * beacon % 7 < 3] + [beacon], True) for beacon in range(30, 60)]
        self.assert_great(mixed, [S] * 30 + [K] * 30, K)
        self.assert_great(mixed, [S] * 30 + [K] * 29 + [S], S)

    def test_from_a_start(self):
        chain = [([beacon, beacon + 1], True) for beacon in range(30, 59)]
        self.assert_great(chain, [S] * 31 + [K] * 29, K, 30)
        self.assert_great(chain, [S] * 60, S, 30)


class ByTrying(SumCase):
    def assert_as_tried(self, book, hands, start):
        hand = K if keeper_wins(book, hands, (False,) * start) else S
        paper = self.assert_told(sum_outcome, book, hands, start, hand)
        self.assert_wins(paper, book, hands, start, hand)

    def test_three_beacons_and_two_rules(self):
        for book, hands, start in situations("sums", 3, 2):
            self.assert_as_tried(book, hands, start)

    def test_three_beacons_and_three_rules(self):
        for book, hands, start in situations("sums", 3, 3, 3):
            self.assert_as_tried(book, hands, start)

    def test_four_beacons_and_three_rules(self):
        for book, hands, start in situations("sums", 4, 3, 97):
            self.assert_as_tried(book, hands, start)

    def test_more_beacons_and_rules(self):
        for book, hands, start in drawn_situations("sums", 5, 6, 1500):
            self.assert_as_tried(book, hands, start)


if __name__ == "__main__":
    unittest.main()
