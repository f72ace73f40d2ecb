"""Who wins books of eithers (points 2, 15, 16, 17, 22 and the interface's part on eitherways.py)."""

import unittest

from duskbook.books import book_made
from duskbook.eitherways import either_outcome
from plays import PaperCase
from samples import drawn_situations, keeper_wins, situations

K, S = "keeper", "storm"


def either_book(*rules):
    """Of rules that are texts: "+0 -1" says that 0 is lit or 1 dark."""
    sayings = [[(int(word[1:]), word[0] == "+") for word in rule.split()] for rule in rules]
    return book_made("eithers", sayings)


def like(beacon, other):
    return [f"+{beacon} -{other}", f"-{beacon} +{other}"]


class EitherCase(PaperCase):
    def assert_lost(self, word, rules, hands, start=0):
        book = either_book(*rules)
        paper = self.assert_told(either_outcome, book, hands, start, S)
        self.assertEqual(paper[0], word)
        self.assert_wins(paper, book, hands, start, S)
        return paper

    def assert_kept(self, rules, hands, start=0):
        book = either_book(*rules)
        paper = self.assert_told(either_outcome, book, hands, start, K)
        self.assert_wins(paper, book, hands, start, K)
        return list(paper[1])


class Lost(EitherCase):
    def test_a_void_rule(self):
        for hands in ((), (K,), (S,), (K, S, K)):
            for start in range(len(hands) + 1):
                self.assert_lost("broken", [""], hands, start)
        self.assert_lost("broken", ["", "+0", ""], (K,))
        self.assert_lost("broken", ["+0 -1", ""], (K, K))

    def test_a_clash_of_rules_of_one_saying(self):
        paper = self.assert_lost("clash", ["+0", "-0"], (K,))
        self.assertEqual({paper[1], paper[2]}, {((0, True), (0, False)), ((0, False), (0, True))})
        self.assert_lost("clash", ["+2", "-2"], (S, K, K), 1)

    def test_a_clash_over_other_beacons(self):
        self.assert_lost("clash", ["+0 +1", "+0 -1", "-0 +1", "-0 -1"], (K, K))
        self.assert_lost("clash", ["+0 +1", "+0 -1", "-0"], (K, K))
        self.assert_lost("clash", ["-0 +1", "-1 +2", "-2 -0", "+0 +3", "-3 +0"], (K, K, K, K))
        self.assert_lost("clash", ["+1", "-1 +3", "-3 -1"], (S, K, S, K))

    def test_a_cross_of_two_beacons(self):
        self.assertEqual(self.assert_lost("cross", ["-0 +1"], (S, S))[1][1:], ((1, True),))
        for rule in ("+0 +1", "+0 -1", "-0 +1", "-0 -1"):
            self.assert_lost("cross", [rule], (S, S))
            self.assert_lost("cross", [rule.replace("1", "3").replace("0", "2")], (K, S, S, S), 2)

    def test_a_cross_of_one_beacon(self):
        paper = self.assert_lost("cross", ["+0"], (S,))
        self.assertEqual(paper, ("cross", ((0, False), (0, True))))
        paper = self.assert_lost("cross", ["-1"], (K, S))
        self.assertEqual(paper, ("cross", ((1, True), (1, False))))

    def test_a_cross_over_keepers_beacons(self):
        self.assert_lost("cross", ["-0 +1", "-1 +2", "-2 +3"], (S, K, K, S))
        self.assert_lost("cross", ["-0 +2", "-2 +1"], (S, S, K))
        self.assert_lost("cross", ["-1 +0", "-0 -1"], (K, S))
        self.assert_lost("cross", ["+1 +0", "+2 -0"], (K, S, S))

    def test_late(self):
        paper = self.assert_lost("late", like(0, 1), (K, S))
        self.assertEqual({paper[1][0][0], paper[2][0][0]}, {0, 1})
        self.assert_lost("late", ["+0 +1", "-0 -1"], (K, S))
        self.assert_lost("late", like(1, 3), (S, K, K, S, K), 1)

    def test_late_over_other_beacons(self):
        self.assert_lost("late", ["-0 +1", "-1 +2", "-2 +0"], (K, K, S))
        self.assert_lost("late", ["-2 +1", "-1 +3", "-3 +2"], (K, K, S, K), 1)

    def test_all_hands_the_storms(self):
        self.assert_lost("cross", ["+0"], (S, S))
        self.assert_lost("cross", ["+0 +1"], (S, S))
        self.assert_lost("cross", ["+0 -1", "+0 -1"], (S, S))


class Kept(EitherCase):
    def test_no_rules(self):
        for hands in ((), (K,), (S,), (K, S), (S, K), (S, S), (K, K, S, K)):
            for start in range(len(hands) + 1):
                rows = self.assert_kept([], hands, start)
                self.assertEqual([row[0] for row in rows],
                                 [beacon for beacon in range(start, len(hands)) if hands[beacon] == K])

    def test_rules_that_always_hold(self):
        self.assert_kept(["+0 -0"], (S,))
        self.assert_kept(["+0 -0", "+1 -1", "+0 -0"], (S, K))

    def test_rules_of_one_saying(self):
        self.assertEqual(self.assert_kept(["+0", "-1", "+0"], (K, K)), [(0, None, True), (1, None, False)])
        self.assertEqual(self.assert_kept(["+2"], (S, S, K), 2), [(2, None, True)])

    def test_a_beacon_that_goes_by_a_storms_one(self):
        self.assertEqual(self.assert_kept(like(0, 1), (S, K)), [(1, 0, True)])
        self.assertEqual(self.assert_kept(["+0 +1", "-0 -1"], (S, K)), [(1, 0, False)])
        self.assertEqual(self.assert_kept(like(1, 3), (K, S, K, K), 1)[1], (3, 1, True))

    def test_beacons_that_go_by_a_storms_one_over_others(self):
        rows = self.assert_kept(["-0 +1", "-1 -2", "+2 +0"], (S, K, K))
        self.assertEqual(rows, [(1, 0, True), (2, 0, False)])
        rows = self.assert_kept(like(0, 2) + ["+1 +3", "-1 -3"] + like(2, 4), (S, S, K, K, K))
        self.assertEqual(rows, [(2, 0, True), (3, 1, False), (4, 0, True)])

    def test_sayings_that_a_storms_saying_leads_to(self):
        self.assertEqual(self.assert_kept(["+0 +1"], (S, K)), [(1, None, True)])
        self.assertEqual(self.assert_kept(["+0 -1"], (S, K)), [(1, None, False)])
        # They may come ahead of the storm's beacon, too.
        self.assertEqual(self.assert_kept(["+0 +1"], (K, S)), [(0, None, True)])
        self.assertEqual(self.assert_kept(["-0 -1"], (K, S)), [(0, None, False)])
        rows = self.assert_kept(["-0 +1", "-1 +2", "-2 -3"], (S, K, K, K))
        self.assertEqual(rows, [(1, None, True), (2, None, True), (3, None, False)])

    def test_sayings_that_lead_to_others(self):
        rows = self.assert_kept(["-0 +1", "-1 +2", "+0 +2"], (K, K, K))
        self.assertIn((2, None, True), rows)
        self.assertEqual(self.assert_kept(["+0 +1", "+0 -1"], (K, K))[0], (0, None, True))
        self.assertEqual(self.assert_kept(["-0 +1", "-0 -1"], (K, K))[0], (0, None, False))
        self.assert_kept(["+0 +1", "-0 -1"], (K, K))
        self.assert_kept(["+0 -1", "-0 +1", "+1 +2", "-2 +3"], (K, K, K, K))

    def test_all_three_ways_beside_one_another(self):
        rules = like(0, 2) + ["+2 +3", "-1 -4", "+5 +6", "+5 -6", "-5 +7"]
        rows = dict((row[0], row[1:]) for row in self.assert_kept(rules, (S, S, K, K, K, K, K, K)))
        self.assertEqual(rows[2], (0, True))
        self.assertEqual(rows[3], (None, True))
        self.assertEqual(rows[4], (None, False))
        self.assertEqual((rows[5], rows[7]), ((None, True), (None, True)))

    def test_all_hands_the_keepers(self):
        self.assert_kept(["+0 +1", "-0 +1", "+0 -1"], (K, K))
        self.assert_kept(["+0 +1", "+0 +1"], (K, K), 0)

    def test_all_settled(self):
        self.assertEqual(self.assert_kept([], (K, S, K), 3), [])
        self.assertEqual(self.assert_kept([], (), 0), [])


class Great(EitherCase):
    def assert_great(self, rules, hands, hand, start=0):
        book = either_book(*rules)
        self.assertLessEqual(len(book[1]), 60)
        paper = self.assert_told(either_outcome, book, hands, start, hand)
        rows = [[], [1] * 60, [0, 1] * 30, [1, 1, 0] * 20]
        self.assert_wins_against(rows, paper, book, hands, hand, (False,) * start)
        return paper

    def test_a_ring_over_all_beacons(self):
        ring = [f"-{beacon} +{(beacon + 1) % 60}" for beacon in range(60)]
        self.assertEqual(len(self.assert_great(ring, [S] + [K] * 59, K)[1]), 59)
        self.assert_great(ring, [K] * 60, K)
        self.assertEqual(self.assert_great(ring, [K] * 59 + [S], S)[0], "late")
        self.assertEqual(self.assert_great(ring, [S] + [K] * 58 + [S], S)[0], "cross")

    def test_a_chain_over_all_beacons(self):
        chain = [f"-{beacon} +{beacon + 1}" for beacon in range(59)]
        self.assert_great(chain, [S] + [K] * 59, K)
        self.assert_great(chain, [K] * 59 + [S], K)
        self.assert_great(chain, [K] * 29 + [S] + [K] * 30, K)
        paper = self.assert_great(chain, [S] + [K] * 58 + [S], S)
        self.assertEqual(len(paper[1]), 60)
        self.assert_great(chain + ["+0"], [K] * 60, K)
        self.assert_great(chain + ["+0"], [K] * 59 + [S], S)

    def test_a_clash_over_all_beacons(self):
        # From lit to dark over all beacons and back; there is no shorter clash than over the whole way.
        there = [f"-{beacon} +{beacon + 1}" for beacon in range(29)] + ["-29 -0"]
        back = ["+0 +30"] + [f"-{beacon} +{beacon + 1}" for beacon in range(30, 58)] + ["-58 +0"]
        self.assertEqual(self.assert_great(there + back, [K] * 60, S)[0], "clash")
        self.assertEqual(self.assert_great(there, [K] * 60, K)[0], "plan")

    def test_pairs(self):
        pairs = []
        for beacon in range(0, 60, 2):
            pairs += like(beacon, beacon + 1)
        self.assert_great(pairs, [S, K] * 30, K)
        self.assert_great(pairs, [S, K] * 29 + [K, S], S)
        self.assert_great(pairs[40:], [S, K] * 30, K, 40)


class ByTrying(EitherCase):
    def assert_as_tried(self, book, hands, start):
        hand = K if keeper_wins(book, hands, (False,) * start) else S
        paper = self.assert_told(either_outcome, book, hands, start, hand)
        self.assert_wins(paper, book, hands, start, hand)

    def test_three_beacons_and_two_rules(self):
        for book, hands, start in situations("eithers", 3, 2):
            self.assert_as_tried(book, hands, start)

    def test_three_beacons_and_three_rules(self):
        for book, hands, start in situations("eithers", 3, 3, 13):
            self.assert_as_tried(book, hands, start)

    def test_four_beacons_and_three_rules(self):
        for book, hands, start in situations("eithers", 4, 3, 239):
            self.assert_as_tried(book, hands, start)

    def test_more_beacons_and_rules(self):
        for book, hands, start in drawn_situations("eithers", 5, 8, 1500):
            self.assert_as_tried(book, hands, start)


if __name__ == "__main__":
    unittest.main()
