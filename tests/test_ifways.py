"""Who wins books of ifs (points 2, 15, 16, 17, 22 and the interface's part on ifways.py)."""

import unittest

from duskbook.books import book_made
from duskbook.ifways import if_outcome
from plays import PaperCase
from samples import drawn_situations, keeper_wins, situations

K, S = "keeper", "storm"


class IfCase(PaperCase):
    def assert_lost(self, rules, hands, start=0):
        book = book_made("ifs", rules)
        paper = self.assert_told(if_outcome, book, hands, start, S)
        self.assert_wins(paper, book, hands, start, S)
        return paper

    def assert_kept(self, rules, hands, start=0):
        book = book_made("ifs", rules)
        paper = self.assert_told(if_outcome, book, hands, start, K)
        self.assert_wins(paper, book, hands, start, K)
        return paper


class Lost(IfCase):
    def test_a_void_rule(self):
        for hands in ((), (K,), (S,), (K, S, K)):
            for start in range(len(hands) + 1):
                self.assert_lost([([], None)], hands, start)
        self.assert_lost([([0], 1), ([], 0), ([], None), ([], None)], (K, K))

    def test_without_a_lone_beacon(self):
        self.assertEqual(self.assert_lost([([0], None)], (S,)), ("lone", None, (), (0,)))
        self.assertEqual(self.assert_lost([([0, 1], None)], (S, S)), ("lone", None, (), (0,)))
        self.assertEqual(self.assert_lost([([], 0), ([0], None)], (K,)), ("lone", None, (), (0, 1)))
        self.assertEqual(self.assert_lost([([2], None), ([1], 2), ([0], 1)], (S, K, K)), ("lone", None, (), (2, 1, 0)))
        self.assertEqual(self.assert_lost([([2], 1), ([1], None)], (S, K, S), 1), ("lone", None, (), (0, 1)))

    def test_with_a_lone_beacon_that_is_a_head(self):
        self.assertEqual(self.assert_lost([([], 0)], (S,)), ("lone", 0, (), (0,)))
        self.assertEqual(self.assert_lost([([0], 1)], (S, S)), ("lone", 1, (), (0,)))
        self.assertEqual(self.assert_lost([([1], 0)], (S, S)), ("lone", 0, (), (0,)))
        self.assertEqual(self.assert_lost([([1], 0), ([0], 2)], (K, S, S))[:2], ("lone", 2))

    def test_with_a_lone_beacon_and_first_ones(self):
        # Lit, 1 asks for 0, which is settled ahead of it; dark, it is asked for by 0.
        self.assertEqual(self.assert_lost([([1], 0), ([0], 1)], (K, S)), ("lone", 1, (0,), (1,)))
        self.assertEqual(self.assert_lost([([3], 2), ([2], 3)], (S, K, K, S), 2), ("lone", 3, (0,), (1,)))
        # 0 lit forbids 1 to be dark, by way of 2.
        paper = self.assert_lost([([1], 0), ([0], 2), ([2], 1)], (K, S, K))
        self.assertEqual((paper[1], paper[3]), (1, (1, 2)))

    def test_a_book_that_keeps_each_way_alone_is_lost_where_the_keeper_settles_too_early(self):
        rules = [([1], 0), ([0], 1)]
        self.assert_kept(rules, (S, K))
        self.assert_lost(rules, (K, S))

    def test_both_ways_to_lose_in_one_book(self):
        self.assert_lost([([1], 0), ([0, 2], 1), ([3], None)], (K, S, S, K))
        self.assert_lost([([1], 0), ([0], 1), ([1], None)], (K, S))
        self.assert_lost([([0], None), ([1], 0), ([0], 1)], (K, S))

    def test_a_derivation_over_the_lone_beacon_is_cut_off_there(self):
        # From 0 the dark 1 is derived, and from this 2; of these the first alone is told.
        paper = self.assert_lost([([0], 1), ([1], 2)], (S, S, K))
        self.assertEqual((paper[1], paper[3]), (1, (0,)))

    def test_all_hands_the_storms(self):
        self.assert_lost([([0], 1)], (S, S))
        self.assert_lost([([0, 1], None), ([0, 1], None)], (S, S))

    def test_all_hands_the_keepers(self):
        self.assert_lost([([], 0), ([0], 1), ([0, 1], None)], (K, K))


class Kept(IfCase):
    def test_no_rules(self):
        for hands in ((), (K,), (S,), (K, S), (S, K), (S, S), (K, K, S, K)):
            for start in range(len(hands) + 1):
                paper = self.assert_kept([], hands, start)
                self.assertEqual([row[0] for row in paper[2]],
                                 [beacon for beacon in range(start, len(hands)) if hands[beacon] == S])

    def test_rules_that_always_hold(self):
        self.assert_kept([([0], 0)], (S,))
        self.assert_kept([([0, 1], 1), ([0, 1], 1)], (S, S))

    def test_a_rule_without_a_body(self):
        self.assertEqual(self.assert_kept([([], 0)], (K,)), ("rows", (0,), ()))
        self.assertEqual(self.assert_kept([([], 1), ([1], 2)], (S, K, K), 1), ("rows", (1, 2), ()))

    def test_all_hands_the_keepers(self):
        self.assert_kept([([0], None), ([1], 0)], (K, K))
        self.assert_kept([([0, 1], None), ([], 0)], (K, K))

    def test_rows_that_differ_behind_a_storms_beacon(self):
        self.assertEqual(self.assert_kept([([0], 1), ([1], 0)], (S, K)), ("rows", (1,), ((0, ()),)))
        paper = self.assert_kept([([0], 2), ([2], 0), ([1], 3), ([3], 1), ([0, 1], 4), ([4], 0), ([4], 1)],
                                 (S, S, K, K, K))
        self.assertEqual(paper, ("rows", (2, 3, 4), ((0, (3,)), (1, (2,)))))

    def test_rows_that_are_alike_ahead_of_a_storms_beacon(self):
        paper = self.assert_kept([([2], 0), ([0], 1), ([2], 3), ([3], 2)], (K, K, S, K))
        self.assertEqual(paper, ("rows", (0, 1, 3), ((2, (0, 1)),)))
        paper = self.assert_kept([([2], 1), ([2, 3], 4), ([4], 3)], (S, K, S, S, K), 1)
        self.assertEqual(paper, ("rows", (1, 4), ((2, (1,)), (3, (1,)))))

    def test_rules_without_a_head(self):
        self.assert_kept([([0, 1], None)], (S, K))
        self.assert_kept([([0, 1], None), ([0], 2), ([2, 1], None)], (S, K, K))

    def test_all_settled(self):
        self.assertEqual(self.assert_kept([], (K, S, K), 3), ("rows", (), ()))
        self.assertEqual(self.assert_kept([], (), 0), ("rows", (), ()))


class Great(IfCase):
    def assert_great(self, rules, hands, hand, start=0):
        book = book_made("ifs", rules)
        paper = self.assert_told(if_outcome, book, hands, start, hand)
        rows = [[], [1] * 60, [0, 1] * 30, [1, 1, 0] * 20, [1] * 29 + [0] + [1] * 30]
        self.assert_wins_against(rows, paper, book, hands, hand, (True,) * start)
        return paper

    def test_a_chain_over_all_beacons(self):
        chain = [([beacon], beacon + 1) for beacon in range(59)]
        self.assertEqual(self.assert_great(chain, [S] + [K] * 59, K), ("rows", tuple(range(1, 60)), ((0, ()),)))
        self.assert_great(chain, [K] * 60, K)
        self.assert_great(chain, [K] * 59 + [S], K)
        self.assert_great(chain + [([59], 0)], [S] + [K] * 59, K)
        self.assertEqual(self.assert_great(chain + [([59], 0)], [K] * 59 + [S], S)[1], 59)
        self.assertEqual(self.assert_great(chain + [([59], None)], [S] + [K] * 59, S),
                         ("lone", None, (), tuple(range(60))))
        self.assertEqual(self.assert_great(chain, [S] + [K] * 58 + [S], S)[1], 59)

    def test_a_chain_backward(self):
        chain = [([beacon + 1], beacon) for beacon in range(59)]
        self.assert_great(chain, [K] * 59 + [S], K)
        self.assert_great(chain[::-1], [K] * 59 + [S], K)
        self.assertEqual(self.assert_great(chain + [([0], 59)], [K] * 59 + [S], S)[1], 59)
        self.assertEqual(self.assert_great(chain[::-1] + [([0], 59)], [K] * 59 + [S], S)[1], 59)

    def test_great_bodies(self):
        heaps = [(range(beacon), beacon) for beacon in range(30, 60)]
        self.assert_great(heaps + heaps[::-1], [S] * 30 + [K] * 30, K)
        self.assert_great(heaps[::-1] + [(range(60), None)], [S] * 30 + [K] * 30, S)
        self.assert_great(heaps[::-1] + [(range(60), 0)] * 30, [S] * 30 + [K] * 30, K)

    def test_many_rows(self):
        pairs = [([beacon], beacon + 1) for beacon in range(0, 60, 2)]
        pairs += [([beacon + 1], beacon) for beacon in range(0, 60, 2)]
        paper = self.assert_great(pairs, [S, K] * 30, K)
        self.assertEqual([len(row[1]) for row in paper[2]], [29] * 30)
        self.assert_great(pairs, [S, K] * 29 + [K, S], S)
        self.assert_great(pairs[20:30] + pairs[50:], [S, K] * 30, K, 40)


class ByTrying(IfCase):
    def assert_as_tried(self, book, hands, start):
        hand = K if keeper_wins(book, hands, (False,) * start) else S
        paper = self.assert_told(if_outcome, book, hands, start, hand)
        self.assert_wins(paper, book, hands, start, hand)

    def test_three_beacons_and_two_rules(self):
        for book, hands, start in situations("ifs", 3, 2):
            self.assert_as_tried(book, hands, start)

    def test_three_beacons_and_three_rules(self):
        for book, hands, start in situations("ifs", 3, 3, 29):
            self.assert_as_tried(book, hands, start)

    def test_four_beacons_and_two_rules(self):
        for book, hands, start in situations("ifs", 4, 2, 23):
            self.assert_as_tried(book, hands, start)

    def test_more_beacons_and_rules(self):
        for book, hands, start in drawn_situations("ifs", 5, 8, 2000):
            self.assert_as_tried(book, hands, start)


if __name__ == "__main__":
    unittest.main()
