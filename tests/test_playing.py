"""Playing by papers (points 2, 3, 18 and the interface's part on playing.py)."""

import itertools
import unittest

from candidates import keeper_papers, storm_papers
from duskbook.books import book_made
from duskbook.checking import good
from duskbook.playing import said
from plays import PaperCase
from samples import evenings_of, situations

K, S = "keeper", "storm"


class Playing(unittest.TestCase):
    def assert_said(self, lit, paper, book, hands, start, evening):
        for form in (tuple, list):
            handed = form(hands), form(evening)
            with self.subTest(paper=paper, book=book, evening=evening):
                self.assertIs(said(paper, book, handed[0], start, handed[1]), lit)
                self.assertEqual(handed, (form(hands), form(evening)))

    def assert_all_said(self, say, paper, book, hands, start, hand):
        """For each beacon of the hand in turn, and each evening so far, the answer is that of say(beacon, evening)."""
        self.assertTrue(good(paper, book, hands, start, hand))
        for beacon in range(start, len(hands)):
            if hands[beacon] == hand:
                for evening in evenings_of(beacon):
                    self.assert_said(say(beacon, evening), paper, book, hands, start, evening)


class ByKeepersPapers(Playing):
    def test_plan(self):
        book = book_made("eithers", [[(0, False), (1, True)], [(2, True), (3, True)], [(4, True)], [(5, False)]])
        paper = ("plan", ((1, 0, True), (3, 2, False), (4, None, True), (5, None, False)))
        hands = (S, K, S, K, K, K)
        answers = {1: lambda evening: evening[0], 3: lambda evening: not evening[2], 4: lambda evening: True,
                   5: lambda evening: False}
        self.assert_all_said(lambda beacon, evening: answers[beacon](evening), paper, book, hands, 0, K)

    def test_plan_from_a_start(self):
        book = book_made("eithers", [[(3, False), (4, True)], [(3, True), (4, False)]])
        paper = ("plan", ((2, None, False), (4, 3, True)))
        self.assert_all_said(lambda beacon, evening: beacon == 4 and evening[3], paper, book, (S, K, K, S, K), 2, K)

    def test_sums(self):
        book = book_made("sums", [([0, 1, 2], False), ([0, 3], True), ([4], True), ([5], False)])
        paper = ("sums", ((2, (0, 1), False), (3, (0,), True), (4, (), True), (5, (), False)))
        hands = (S, S, K, K, K, K)
        answers = {2: lambda evening: evening[0] != evening[1], 3: lambda evening: not evening[0],
                   4: lambda evening: True, 5: lambda evening: False}
        self.assert_all_said(lambda beacon, evening: answers[beacon](evening), paper, book, hands, 0, K)

    def test_sums_from_a_start(self):
        book = book_made("sums", [([1, 2, 3, 4], True)])
        paper = ("sums", ((4, (1, 2, 3), True),))
        self.assert_all_said(lambda beacon, evening: evening[1:].count(True) in (0, 2), paper, book,
                             (K, S, S, S, K), 1, K)

    def test_rows_of_ifs(self):
        # 2 follows from 0, 3 from 1, 4 from both; 5 is never asked for.
        book = book_made("ifs", [([0], 2), ([1], 3), ([0, 1], 4)])
        hands = (S, S, K, K, K, K)
        paper = ("rows", (2, 3, 4), ((0, (3,)), (1, (2,))))
        answers = {2: lambda evening: evening[0], 3: lambda evening: evening[1],
                   4: lambda evening: evening[0] and evening[1], 5: lambda evening: False}
        self.assert_all_said(lambda beacon, evening: answers[beacon](evening), paper, book, hands, 0, K)

    def test_rows_of_nots(self):
        book = book_made("nots", [([0], 2), ([1], 3), ([0, 1], 4)])
        hands = (S, S, K, K, K, K)
        paper = ("rows", (2, 3, 4), ((0, (3,)), (1, (2,))))
        answers = {2: lambda evening: evening[0], 3: lambda evening: evening[1],
                   4: lambda evening: evening[0] or evening[1], 5: lambda evening: True}
        self.assert_all_said(lambda beacon, evening: answers[beacon](evening), paper, book, hands, 0, K)

    def test_rows_of_storms_beacons_that_come_later_are_not_asked(self):
        for kind, so in (("ifs", True), ("nots", False)):
            book = book_made(kind, [([], 0), ([0, 1], 2)])
            paper = ("rows", (0, 2), ((1, (0,)), (3, (0, 2))))
            hands = (K, S, K, S)
            self.assert_all_said(lambda beacon, evening: so if beacon == 0 else evening[1], paper, book, hands, 0, K)

    def test_rows_that_have_beacons_without_the_first_ones(self):
        # 3 stands in the row of 0 alone, and is lit in no evening that is played.
        for kind, so in (("ifs", True), ("nots", False)):
            paper = ("rows", (1,), ((0, (1, 2)),))
            self.assert_all_said(lambda beacon, evening: so if beacon == 1 else not so, paper, (kind, ()), (S, K, K), 0, K)

    def test_rows_from_a_start(self):
        # The storm's beacon 0 is settled: whether it is lit or dark changes nothing.
        for kind in ("ifs", "nots"):
            book = book_made(kind, [([2], 3)])
            paper = ("rows", (3,), ((2, ()),))
            self.assert_all_said(lambda beacon, evening: evening[2], paper, book, (S, K, S, K), 2, K)

    def test_rows_without_storms_beacons(self):
        for kind, so in (("ifs", True), ("nots", False)):
            book = book_made(kind, [([], 1)])
            self.assert_all_said(lambda beacon, evening: (beacon == 1) == so, ("rows", (1,), ()), book, (K, K), 0, K)


class ByStormsPapers(Playing):
    def test_broken(self):
        for kind, rule in (("eithers", []), ("sums", ([], True)), ("ifs", ([], None)), ("nots", ([], None))):
            book = book_made(kind, [rule])
            self.assert_all_said(lambda beacon, evening: False, ("broken",), book, (S, K, S), 0, S)
            self.assert_all_said(lambda beacon, evening: False, ("broken",), book, (S, K, S), 1, S)

    def test_clash(self):
        book = book_made("eithers", [[(1, True)], [(1, False)]])
        paper = ("clash", ((1, True), (1, False)), ((1, False), (1, True)))
        for hands, start in (((S, K, S), 0), ((S, S, S), 0), ((S, S, S), 1)):
            self.assert_all_said(lambda beacon, evening: False, paper, book, hands, start, S)

    def test_cross(self):
        for lit, other in itertools.product((False, True), repeat=2):
            # The first saying is so, the last one not so, whichever comes first.
            book = book_made("eithers", [[(1, not lit), (2, True)], [(2, False), (3, other)]])
            road = ((1, lit), (2, True), (3, other))
            back = ((3, not other), (2, False), (1, not lit))
            for way in (road, back):
                answers = {0: False, 1: lit, 3: not other, 4: False}
                self.assert_all_said(lambda beacon, evening: answers[beacon], ("cross", way), book, (S, S, K, S, S), 0, S)
                self.assert_all_said(lambda beacon, evening: answers[beacon], ("cross", way), book, (S, S, K, S, S), 1, S)

    def test_cross_to_its_contrary(self):
        for lit in (False, True):
            book = book_made("eithers", [[(1, not lit)]])
            paper = ("cross", ((1, lit), (1, not lit)))
            self.assert_all_said(lambda beacon, evening: beacon == 1 and lit, paper, book, (S, S, S), 0, S)

    def test_late(self):
        for lit, other in itertools.product((False, True), repeat=2):
            # The keeper's 1 is so just where the storm's 3 is so.
            book = book_made("eithers", [[(3, not lit), (1, other)], [(3, lit), (1, not other)]])
            paper = ("late", ((3, lit), (1, other)), ((1, other), (3, lit)))

            def say(beacon, evening):
                if beacon != 3:
                    return False
                return (not lit) if evening[1] == other else lit

            self.assert_all_said(say, paper, book, (S, K, S, S, S), 0, S)
            self.assert_all_said(say, paper, book, (S, K, S, S, S), 1, S)

    def test_odd(self):
        for odd in (False, True):
            book = book_made("sums", [([0, 1, 2], odd), ([2, 3], False), ([3], True)])
            # Added they are 0 and 1 and 2 with 2 and 3 and 3: the sum of 0 and 1, odd turned.
            paper = ("odd", (0, 1, 2))

            def say(beacon, evening):
                return beacon == 1 and evening[0] == (not odd)

            self.assert_all_said(say, paper, book, (K, S, K, S), 0, S)
            self.assert_all_said(say, paper, book, (S, S, K, S), 0, S)

    def test_odd_of_three_beacons_from_a_start(self):
        for odd in (False, True):
            book = book_made("sums", [([1, 2, 4], odd)])

            def say(beacon, evening):
                return beacon == 4 and ((evening[1] != evening[2]) == odd)

            self.assert_all_said(say, ("odd", (0,)), book, (S, K, K, S, S), 1, S)

    def test_odd_whose_sum_has_no_beacon(self):
        book = book_made("sums", [([0, 1], True), ([0, 1], False)])
        self.assert_all_said(lambda beacon, evening: False, ("odd", (0, 1)), book, (S, S, K, S), 0, S)

    def test_lone_of_ifs(self):
        # All storm's beacons lit ask for 0 and 1, which forbid 3 to be dark.
        book = book_made("ifs", [([3], 0), ([2, 3], 1), ([0, 1], 3)])
        paper = ("lone", 3, (0, 1), (2,))

        def say(beacon, evening):
            return beacon != 3 or not (evening[0] and evening[1])

        self.assert_all_said(say, paper, book, (K, K, S, S, S), 0, S)

    def test_lone_of_nots(self):
        book = book_made("nots", [([3], 0), ([2, 3], 1), ([0, 1], 3)])
        paper = ("lone", 3, (0, 1), (2,))

        def say(beacon, evening):
            return beacon == 3 and not (evening[0] or evening[1])

        self.assert_all_said(say, paper, book, (K, K, S, S, S), 0, S)

    def test_lone_with_heads_that_are_none_of_the_first_ones(self):
        # 1 is the storm's own and 4 comes behind 2: neither is asked for.
        for kind, so in (("ifs", True), ("nots", False)):
            book = book_made(kind, [([2], 0), ([2], 1), ([2], 4), ([0], 2)])
            paper = ("lone", 2, (0, 1, 2), (3,))

            def say(beacon, evening):
                return so if beacon != 2 or evening[0] != so else not so

            self.assert_all_said(say, paper, book, (K, S, S, S, K), 0, S)

    def test_lone_without_first_ones(self):
        for kind, so in (("ifs", True), ("nots", False)):
            book = book_made(kind, [([0], 1)])
            self.assert_all_said(lambda beacon, evening: so if beacon != 1 else not so, ("lone", 1, (), (0,)), book,
                                 (S, S, S), 0, S)

    def test_lone_without_a_beacon(self):
        for kind, so in (("ifs", True), ("nots", False)):
            book = book_made(kind, [([0, 1], 2), ([2], None)])
            self.assert_all_said(lambda beacon, evening: so, ("lone", None, (), (0, 1)), book, (S, S, K, S), 0, S)

    def test_lone_from_a_start(self):
        for kind, so in (("ifs", True), ("nots", False)):
            book = book_made(kind, [([3], 2), ([2], 3)])
            paper = ("lone", 3, (0,), (1,))

            def say(beacon, evening):
                return so if beacon != 3 or evening[2] != so else not so

            self.assert_all_said(say, paper, book, (K, S, K, S, S), 2, S)
            self.assert_all_said(say, paper, book, (K, S, K, S, S), 1, S)


class Winning(PaperCase):
    def assert_good_ones_win(self, book, hands, start):
        for hand, papers in ((K, keeper_papers(book, hands, start)), (S, storm_papers(book, hands, start))):
            for paper in papers:
                if good(paper, book, hands, start, hand):
                    self.assert_wins(paper, book, hands, start, hand)

    def test_whatever_the_other_hand_does_over_books_of_two_rules(self):
        for kind, every in (("eithers", 3), ("sums", 2), ("ifs", 5), ("nots", 7)):
            for book, hands, start in situations(kind, 3, 2, every):
                self.assert_good_ones_win(book, hands, start)

    def test_whatever_the_other_hand_does_over_books_of_three_rules(self):
        for kind, every in (("eithers", 41), ("sums", 11), ("ifs", 113), ("nots", 131)):
            for book, hands, start in situations(kind, 3, 3, every):
                self.assert_good_ones_win(book, hands, start)

    def test_four_beacons(self):
        for kind, every in (("eithers", 101), ("sums", 67), ("ifs", 307), ("nots", 311)):
            for book, hands, start in situations(kind, 4, 2, every):
                self.assert_good_ones_win(book, hands, start)


if __name__ == "__main__":
    unittest.main()
