"""Settlers and watches played out (points 2, 3, 18, 20, 21 and the interface's part on settlers.py)."""

import itertools
import unittest

from candidates import keeper_papers, storm_papers
from duskbook.books import book_made
from duskbook.checking import good
from duskbook.errors import NoLight
from duskbook.playing import said
from duskbook.settlers import Papered, Rowed, Settler, play_out
from duskbook.watches import Watch
from plays import settled
from samples import KINDS, evenings_of, situations

K, S = "keeper", "storm"
EITHER_BOOK = book_made("eithers", [[(0, False), (1, True)], [(0, True), (1, False)]])


class Noting(Settler):
    """Writes down what it is asked and told; says what its row says."""

    def __init__(self, hand, notes, row):
        Settler.__init__(self, hand)
        self.notes = notes
        self.truths = list(row)

    def says(self, watch):
        self.notes.append((self.hand, "says", watch.evening()))
        return self.truths.pop(0)

    def sees(self, hand, lit):
        self.notes.append((self.hand, "sees", hand, lit))


class Plain(unittest.TestCase):
    def test_it_says_dark(self):
        for hand in (K, S):
            settler = Settler(hand)
            watch = Watch(("sums", ()), [hand] * 3)
            for step in range(3):
                self.assertIs(settler.says(watch), False)
                watch.settle(True)
                self.assertIsNone(settler.sees(hand, True))
                self.assertIsNone(settler.sees(S if hand == K else K, False))

    def test_the_watch_is_not_changed(self):
        watch = settled(EITHER_BOOK, [S, K], [True])
        for settler in (Settler(K), Rowed(K, [1]), Papered(K, ("plan", ((1, 0, True),)), EITHER_BOOK, [S, K])):
            settler.says(watch)
            settler.sees(K, True)
            self.assertEqual((watch.evening(), watch.turn()), ((True,), K))

    def test_all_three_are_settlers(self):
        for hand in (K, S):
            for settler in (Settler(hand), Rowed(hand, []), Papered(hand, ("broken",), ("sums", ()), [])):
                self.assertIsInstance(settler, Settler)
        self.assertTrue(issubclass(Rowed, Settler))
        self.assertTrue(issubclass(Papered, Settler))
        self.assertFalse(issubclass(Rowed, Papered))
        self.assertFalse(issubclass(Papered, Rowed))


class RowedOnes(unittest.TestCase):
    watch = Watch(("sums", ()), [K] * 5)

    def assert_says(self, row, truths):
        for hand, form in itertools.product((K, S), (list, tuple)):
            settler = Rowed(hand, form(row))
            for lit in truths:
                # Asked twice it says the same: it changes by what it is told alone.
                self.assertIs(settler.says(self.watch), lit, row)
                self.assertIs(settler.says(self.watch), lit, row)
                self.assertIsNone(settler.sees(hand, not lit))

    def test_lit_where_the_number_is_odd(self):
        self.assert_says([0, 1, 2, 3, 10, 11], [False, True, False, True, False, True])

    def test_numbers_below_nought(self):
        self.assert_says([-1, -2, -3, -10, -11], [True, False, True, False, True])

    def test_very_great_numbers(self):
        great = 10 ** 400
        self.assert_says([great, great + 1, -great, -great - 1, 2 ** 64, 2 ** 64 + 1],
                         [False, True, False, True, False, True])

    def test_dark_where_it_has_none(self):
        self.assert_says([], [False, False])
        self.assert_says([1, 1], [True, True, False, False, False])

    def test_beacons_of_the_other_hand_do_not_count(self):
        for hand, other in ((K, S), (S, K)):
            settler = Rowed(hand, [1, 0, 1])
            said_so_far = []
            for seen in (other, other, hand, other, hand, other, hand, hand):
                said_so_far.append(settler.says(self.watch))
                settler.sees(seen, True)
            self.assertEqual(said_so_far, [True, True, True, False, False, True, True, False])

    def test_whatever_truth_is_told(self):
        for lit in (False, True):
            settler = Rowed(K, [0, 1])
            settler.sees(K, lit)
            self.assertIs(settler.says(self.watch), True)

    def test_it_counts_what_it_is_told_and_not_what_is_settled(self):
        settler = Rowed(K, [1, 0])
        self.assertIs(settler.says(settled(("sums", ()), [K, K, K], [True, True])), True)

    def test_two_watches_one_behind_the_other(self):
        keeper, storm = Rowed(K, [1, 0, 1, 1]), Rowed(S, [0, 1])
        first, second = Watch(("sums", ()), [K, S, K]), Watch(("sums", ()), [K, S, K, K, S])
        play_out(first, keeper, storm)
        self.assertEqual(first.evening(), (True, False, False))
        play_out(second, keeper, storm)
        self.assertEqual(second.evening(), (True, True, True, False, False))

    def test_two_settlers_of_one_row(self):
        row = [1, 0]
        one, other = Rowed(K, row), Rowed(K, row)
        one.sees(K, True)
        self.assertIs(one.says(self.watch), False)
        self.assertIs(other.says(self.watch), True)

    def test_the_row_may_be_changed_behind(self):
        row = [1, 0, 1]
        settler = Rowed(K, row)
        row[0] = 0
        row.clear()
        self.assertIs(settler.says(self.watch), True)
        settler.sees(K, True)
        self.assertIs(settler.says(self.watch), False)
        self.assertEqual(row, [])

    def test_the_row_is_not_changed(self):
        row = [3, 2, 1]
        settler = Rowed(S, row)
        for step in range(5):
            settler.says(self.watch)
            settler.sees(S, True)
        self.assertEqual(row, [3, 2, 1])


class PaperedOnes(unittest.TestCase):
    def test_without_a_start(self):
        settler = Papered(K, ("plan", ((1, 0, True),)), EITHER_BOOK, [S, K])
        for lit in (False, True):
            self.assertIs(settler.says(settled(EITHER_BOOK, [S, K], [lit])), lit)

    def test_with_a_start(self):
        book = book_made("ifs", [([3], 2), ([2], 3)])
        hands = (K, S, K, S)
        paper = ("lone", 3, (0,), (1,))
        for settler in (Papered(S, paper, book, hands, 2), Papered(S, paper, book, hands, start=2),
                        Papered(hand=S, paper=paper, book=book, hands=list(hands), start=2)):
            for evening in evenings_of(3):
                watch = settled(book, hands, evening)
                self.assertIs(settler.says(watch), not evening[2])

    def test_the_start_is_the_papers(self):
        # From 0 on the keeper's 0 is a first one, from 1 on it is settled and none.
        book = book_made("ifs", [([1], 0), ([], 1)])
        paper = ("lone", 1, (0,), (1,))
        watch = settled(book, (K, S), [False])
        self.assertIs(Papered(S, paper, book, (K, S)).says(watch), said(paper, book, (K, S), 0, (False,)))
        self.assertIs(Papered(S, paper, book, (K, S)).says(watch), True)
        self.assertIs(Papered(S, paper, book, (K, S), 1).says(watch), False)

    def test_the_book_is_the_papers_and_not_the_watchs(self):
        book = book_made("sums", [([0], True), ([0, 1], True)])
        watch = settled(book, (K, S), [True])
        left = watch.left()
        self.assertEqual(left, ("sums", (((1,), False),)))
        self.assertTrue(good(("odd", (0,)), left, watch.hands, 1, S))
        self.assertIs(Papered(S, ("odd", (0,)), left, watch.hands, 1).says(watch), True)

    def test_it_says_what_the_paper_says_of_the_evening(self):
        for kind, every in (("eithers", 29), ("sums", 17), ("ifs", 61), ("nots", 67)):
            for book, hands, start in situations(kind, 3, 2, every):
                for hand, papers in ((K, keeper_papers(book, hands, start)), (S, storm_papers(book, hands, start))):
                    for paper in papers:
                        if good(paper, book, hands, start, hand):
                            self.assert_as_said(hand, paper, book, hands, start)

    def assert_as_said(self, hand, paper, book, hands, start):
        settler = Papered(hand, paper, book, list(hands), start)
        for beacon in range(start, len(hands)):
            if hands[beacon] == hand:
                for evening in evenings_of(beacon):
                    told = settler.says(settled(book, hands, evening))
                    self.assertIs(told, said(paper, book, hands, start, evening))

    def test_it_goes_by_the_watch_and_not_by_what_it_is_told(self):
        settler = Papered(K, ("plan", ((1, 0, True),)), EITHER_BOOK, [S, K])
        watch = settled(EITHER_BOOK, [S, K], [True])
        for seen in range(3):
            self.assertIsNone(settler.sees(S, False))
            self.assertIs(settler.says(watch), True)
        watch.back()
        watch.settle(False)
        self.assertIs(settler.says(watch), False)

    def test_the_hands_may_be_changed_behind(self):
        book = book_made("ifs", [([1], 0), ([0], 1)])
        hands = [K, S]
        settler = Papered(S, ("lone", 1, (0,), (1,)), book, hands)
        watch = settled(book, (K, S), [False])
        hands[0] = S
        self.assertIs(settler.says(watch), True)
        hands.clear()
        self.assertIs(settler.says(watch), True)


class PlayedOut(unittest.TestCase):
    def test_who_is_asked_and_told_in_which_order(self):
        notes = []
        keeper, storm = Noting(K, notes, [True, False]), Noting(S, notes, [False])
        watch = Watch(book_made("sums", [([0, 1, 2], True)]), [K, S, K])
        self.assertEqual(play_out(watch, keeper, storm), K)
        self.assertEqual(notes, [
            (K, "says", ()), (K, "sees", K, True), (S, "sees", K, True),
            (S, "says", (True,)), (K, "sees", S, False), (S, "sees", S, False),
            (K, "says", (True, False)), (K, "sees", K, False), (S, "sees", K, False)])
        self.assertEqual(watch.evening(), (True, False, False))

    def test_the_beacon_is_settled_before_they_are_told(self):
        lengths = []
        watch = Watch(("sums", ()), [K, S])

        class Counting(Settler):
            def sees(self, hand, lit):
                lengths.append(len(watch.evening()))

        play_out(watch, Counting(K), Counting(S))
        self.assertEqual(lengths, [1, 1, 2, 2])

    def test_from_the_midst(self):
        notes = []
        watch = settled(book_made("sums", [([0, 1, 2], True)]), [K, S, K], [True, True])
        self.assertEqual(play_out(watch, Noting(K, notes, [True]), Noting(S, notes, [])), K)
        self.assertEqual(notes, [(K, "says", (True, True)), (K, "sees", K, True), (S, "sees", K, True)])
        self.assertEqual(watch.evening(), (True, True, True))

    def test_where_all_are_settled_nobody_is_asked(self):
        for evening, winner in (((True,), K), ((False,), S)):
            notes = []
            watch = settled(book_made("sums", [([0], True)]), [K], evening)
            self.assertEqual(play_out(watch, Noting(K, notes, []), Noting(S, notes, [])), winner)
            self.assertEqual(notes, [])
            self.assertEqual(watch.evening(), evening)
        self.assertEqual(play_out(Watch(("ifs", ()), []), Settler(K), Settler(S)), K)
        self.assertEqual(play_out(Watch(("ifs", (((), None),)), []), Settler(K), Settler(S)), S)

    def test_the_winner_told_is_the_watchs(self):
        for kind in KINDS:
            for book, hands, start in situations(kind, 3, 1, 7):
                for row in itertools.product((0, 1), repeat=2):
                    watch = Watch(book, hands)
                    told = play_out(watch, Rowed(K, row), Rowed(S, row[::-1]))
                    self.assertIn(told, (K, S))
                    self.assertEqual(told, watch.winner())
                    self.assertIsNone(watch.turn())
                    self.assertEqual(len(watch.evening()), len(hands))

    def test_plain_settlers_leave_all_dark(self):
        watch = Watch(book_made("eithers", [[(0, True), (1, True)]]), [S, K])
        self.assertEqual(play_out(watch, Settler(K), Settler(S)), S)
        self.assertEqual(watch.evening(), (False, False))

    def test_sixty_beacons(self):
        hands = [S, K] * 30
        book = book_made("sums", [([beacon, beacon + 1], True) for beacon in range(0, 60, 2)])
        paper = ("sums", tuple((beacon, (beacon - 1,), True) for beacon in range(1, 60, 2)))
        for row in ([], [1] * 30, [0, 1] * 15):
            watch = Watch(book, hands)
            self.assertEqual(play_out(watch, Papered(K, paper, book, hands), Rowed(S, row)), K)

    def test_what_is_no_truth_is_refused_by_the_watch(self):
        class Wrong(Settler):
            def says(self, watch):
                return 1

        watch = Watch(("sums", ()), [K])
        with self.assertRaises(NoLight):
            play_out(watch, Wrong(K), Settler(S))
        self.assertEqual(watch.evening(), ())


class WonByPaper(unittest.TestCase):
    def assert_won(self, book, hands, evening):
        """From the settled beacons on, a settler by a good paper for what is left wins against any row."""
        start = len(evening)
        left = settled(book, hands, evening).left()
        for hand, papers in ((K, keeper_papers(left, hands, start)), (S, storm_papers(left, hands, start))):
            for paper in [paper for paper in papers if good(paper, left, hands, start, hand)][:3]:
                other = S if hand == K else K
                for row in itertools.product((0, 1), repeat=list(hands[start:]).count(other)):
                    watch = settled(book, hands, evening)
                    settlers = {hand: Papered(hand, paper, left, watch.hands, start), other: Rowed(other, row)}
                    self.assertEqual(play_out(watch, settlers[K], settlers[S]), hand, (paper, book, hands, evening, row))

    def test_against_any_row_from_the_start(self):
        for kind, every in (("eithers", 11), ("sums", 7), ("ifs", 23), ("nots", 29)):
            for book, hands, start in situations(kind, 3, 2, every):
                self.assert_won(book, hands, ())

    def test_against_any_row_from_the_midst(self):
        for kind, every in (("eithers", 31), ("sums", 17), ("ifs", 67), ("nots", 71)):
            for book, hands, start in situations(kind, 3, 2, every):
                for evening in evenings_of(1) + evenings_of(2) + evenings_of(3):
                    self.assert_won(book, hands, evening)


if __name__ == "__main__":
    unittest.main()
