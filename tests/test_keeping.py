"""The keeper's papers (points 2, 15, 16, 17 and the interface's part on keeping.py)."""

import unittest

from candidates import KEEPERS_WORDS, good_again, keeper_papers, storm_papers, wild_papers
from duskbook.books import book_made
from duskbook.keeping import keeper_good
from samples import KINDS, keeper_wins, situations

K, S = "keeper", "storm"


class Keeping(unittest.TestCase):
    def assert_good(self, so, paper, book, hands, start=0):
        for row in (tuple(hands), list(hands)):
            with self.subTest(paper=paper, book=book, hands=hands, start=start):
                self.assertIs(keeper_good(paper, book, row, start), so)
                self.assertEqual(list(row), list(hands))


class Plans(Keeping):
    # Beacon 1 goes with 0, 3 against 2, and 4 is lit.
    book = book_made("eithers", [[(0, False), (1, True)], [(0, True), (1, False)], [(2, True), (3, True)],
                                 [(2, False), (3, False)], [(4, True), (0, True)], [(4, True)]])
    hands = (S, K, S, K, K)
    rows = ((1, 0, True), (3, 2, False), (4, None, True))

    def assert_rows(self, so, rows, book=None, hands=None, start=0):
        hands = self.hands if hands is None else hands
        self.assert_good(so, ("plan", rows), book or self.book, hands, start)

    def test_a_good_one(self):
        self.assert_rows(True, self.rows)

    def test_no_rules_and_no_beacons(self):
        empty = ("eithers", ())
        self.assert_rows(True, (), empty, [])
        self.assert_rows(True, (), empty, (S, S))
        self.assert_rows(True, ((0, None, False),), empty, (K,))
        self.assert_rows(True, (), empty, (K, K), 2)

    def test_the_kind(self):
        empty = ("plan", ())
        for kind in KINDS:
            self.assert_good(kind == "eithers", empty, (kind, ()), (S,))
            self.assert_good(kind == "eithers", empty, (kind, ()), ())

    def test_a_row_is_missing(self):
        for gone in range(3):
            self.assert_rows(False, self.rows[:gone] + self.rows[gone + 1:])
        self.assert_rows(False, (), ("eithers", ()), (K,))

    def test_a_row_too_many(self):
        for row in ((0, None, True), (2, None, True), (2, 0, True)):
            self.assert_rows(False, tuple(sorted(self.rows + (row,), key=lambda row: row[0])))
        self.assert_rows(False, self.rows + ((5, None, True),))
        self.assert_rows(False, self.rows + ((4, None, True),))
        self.assert_rows(False, ((0, None, True),), ("eithers", ()), (S,))
        self.assert_rows(False, ((0, None, True),), ("eithers", ()), ())

    def test_rows_that_do_not_rise(self):
        self.assert_rows(False, self.rows[::-1])
        self.assert_rows(False, (self.rows[1], self.rows[0], self.rows[2]))

    def test_sources(self):
        empty = ("eithers", ())
        hands = (S, K, K, S, S)
        for source, so in ((None, True), (0, True), (1, False), (2, False), (3, False), (4, False), (5, False), (59, False)):
            self.assert_rows(so, ((1, None, True), (2, source, True)), empty, hands)
        for source, so in ((None, True), (0, False), (1, True)):
            self.assert_rows(so, ((2, source, True),), empty, (S, S, K), 1)

    def test_a_saying_that_comes_to_true(self):
        for lit in (False, True):
            book = book_made("eithers", [[(0, lit)]])
            self.assert_rows(True, ((0, None, lit),), book, (K,))
            self.assert_rows(False, ((0, None, not lit),), book, (K,))

    def test_two_sayings_that_come_to_false(self):
        book = book_made("eithers", [[(0, True), (1, False)]])
        self.assert_rows(False, ((0, None, False), (1, None, True)), book, (K, K))
        self.assert_rows(True, ((0, None, True), (1, None, True)), book, (K, K))
        self.assert_rows(True, ((0, None, False), (1, None, False)), book, (K, K))

    def test_false_beside_a_saying_of_the_storms(self):
        book = book_made("eithers", [[(0, True), (1, True)]])
        self.assert_rows(False, ((1, None, False),), book, (S, K))
        self.assert_rows(True, ((1, None, True),), book, (S, K))
        self.assert_rows(True, ((1, 0, False),), book, (S, K))
        self.assert_rows(False, ((1, 0, True),), book, (S, K))

    def test_contrary_sayings_of_one_source(self):
        for lit in (False, True):
            book = book_made("eithers", [[(1, lit), (2, True)]])
            self.assert_rows(True, ((1, 0, True), (2, 0, not lit)), book, (S, K, K))
            self.assert_rows(False, ((1, 0, True), (2, 0, lit)), book, (S, K, K))
            self.assert_rows(True, ((1, 0, False), (2, 0, lit)), book, (S, K, K))
            self.assert_rows(False, ((1, 0, False), (2, 0, not lit)), book, (S, K, K))

    def test_sayings_of_two_sources(self):
        book = book_made("eithers", [[(2, True), (3, True)]])
        self.assert_rows(False, ((2, 0, True), (3, 1, False)), book, (S, S, K, K))
        self.assert_rows(True, ((2, 1, True), (3, 1, False)), book, (S, S, K, K))

    def test_both_sayings_of_one_beacon(self):
        book = book_made("eithers", [[(1, True), (1, False)]])
        self.assert_rows(True, (), book, (S, S))
        for row in ((1, None, True), (1, None, False), (1, 0, True), (1, 0, False)):
            self.assert_rows(True, (row,), book, (S, K))

    def test_rules_of_the_storms_alone(self):
        self.assert_rows(False, (), book_made("eithers", [[(0, True)]]), (S,))
        self.assert_rows(False, (), book_made("eithers", [[(0, True), (1, False)]]), (S, S))

    def test_a_void_rule(self):
        self.assert_rows(False, (), book_made("eithers", [[]]), ())
        self.assert_rows(False, ((0, None, True),), book_made("eithers", [[(0, True)], []]), (K,))

    def test_each_rule_is_asked(self):
        for wrong in ((1, 0, False), (1, None, True)):
            self.assert_rows(False, (wrong,) + self.rows[1:])
        for wrong in ((3, 2, True), (3, 0, False), (3, None, True)):
            self.assert_rows(False, (self.rows[0], wrong, self.rows[2]))
        self.assert_rows(False, self.rows[:2] + ((4, 0, False),))

    def test_a_start_that_is_not_nought(self):
        book = book_made("eithers", [[(2, False), (3, True)], [(2, True), (3, False)]])
        hands = (K, S, S, K)
        self.assert_rows(True, ((3, 2, True),), book, hands, 1)
        self.assert_rows(True, ((3, 2, True),), book, hands, 2)
        self.assert_rows(False, ((0, None, True), (3, 2, True)), book, hands, 1)
        self.assert_rows(True, ((0, None, True), (3, 2, True)), book, hands, 0)
        self.assert_rows(False, ((3, 2, True),), book, hands, 0)


class Sums(Keeping):
    # Beacon 2 is the sum of 0 and 1, 3 is lit, 5 is unlike 4.
    book = book_made("sums", [([0, 1, 2], False), ([3], True), ([4, 5], True), ([2, 3, 4, 5, 0, 1], False), ([], False)])
    hands = (S, S, K, K, S, K)
    rows = ((2, (0, 1), False), (3, (), True), (5, (4,), True))

    def assert_rows(self, so, rows, book=None, hands=None, start=0):
        hands = self.hands if hands is None else hands
        self.assert_good(so, ("sums", rows), book or self.book, hands, start)

    def test_a_good_one(self):
        self.assert_rows(True, self.rows)

    def test_no_rules_and_no_beacons(self):
        empty = ("sums", ())
        self.assert_rows(True, (), empty, ())
        self.assert_rows(True, (), empty, (S, S))
        self.assert_rows(True, ((1, (0,), True),), empty, (S, K))
        self.assert_rows(True, (), empty, (K, K), 2)

    def test_the_kind(self):
        for kind in KINDS:
            self.assert_good(kind == "sums", ("sums", ()), (kind, ()), (S,))

    def test_a_row_is_missing(self):
        for gone in range(3):
            self.assert_rows(False, self.rows[:gone] + self.rows[gone + 1:])
        self.assert_rows(False, (), ("sums", ()), (K,))

    def test_a_row_too_many(self):
        for row in ((0, (), True), (4, (), False)):
            self.assert_rows(False, tuple(sorted(self.rows + (row,), key=lambda row: row[0])))
        self.assert_rows(False, self.rows + ((6, (), False),))
        self.assert_rows(False, self.rows + (self.rows[2],))
        self.assert_rows(False, ((0, (), False),), ("sums", ()), (S,))

    def test_rows_that_do_not_rise(self):
        self.assert_rows(False, self.rows[::-1])
        self.assert_rows(False, (self.rows[1], self.rows[0], self.rows[2]))

    def test_the_beacons_in_a_row(self):
        empty = ("sums", ())
        hands = (S, S, K, K, S)
        for beacons, so in (((), True), ((0,), True), ((1,), True), ((0, 1), True), ((1, 0), False), ((0, 0), False),
                            ((2,), False), ((3,), False), ((4,), False), ((0, 4), False), ((5,), False), ((0, 1, 1), False)):
            self.assert_rows(so, ((2, (), False), (3, beacons, True)), empty, hands)
        for beacons, so in (((), True), ((0,), False), ((1,), True), ((0, 1), False)):
            self.assert_rows(so, ((2, beacons, False), (3, (), True)), empty, hands, 1)

    def test_beacons_left_an_odd_number_of_times(self):
        self.assert_rows(False, ((2, (0,), False),) + self.rows[1:])
        self.assert_rows(False, ((2, (), False),) + self.rows[1:])
        self.assert_rows(False, (self.rows[0], (3, (0,), True), self.rows[2]))
        self.assert_rows(False, self.rows[:2] + ((5, (0, 4), True),))
        self.assert_rows(False, (), book_made("sums", [([0], False)]), (S,))
        self.assert_rows(False, (), book_made("sums", [([0], True)]), (S,))

    def test_odds_that_do_not_add_up(self):
        self.assert_rows(False, ((2, (0, 1), True),) + self.rows[1:])
        self.assert_rows(False, (self.rows[0], (3, (), False), self.rows[2]))
        self.assert_rows(False, self.rows[:2] + ((5, (4,), False),))
        for odd in (False, True):
            for first in (False, True):
                for second in (False, True):
                    rows = ((0, (), first), (1, (), second))
                    self.assert_rows(odd == (first != second), rows, book_made("sums", [([0, 1], odd)]), (K, K))

    def test_a_beacon_that_is_left_twice(self):
        book = book_made("sums", [([1, 2], True)])
        self.assert_rows(True, ((1, (0,), True), (2, (0,), False)), book, (S, K, K))
        self.assert_rows(False, ((1, (0,), True), (2, (0,), True)), book, (S, K, K))
        book = book_made("sums", [([0, 1, 2, 3], False)])
        self.assert_rows(False, ((1, (0,), False), (2, (0,), False), (3, (), False)), book, (S, K, K, K))
        self.assert_rows(True, ((1, (0,), False), (2, (0,), False), (3, (0,), False)), book, (S, K, K, K))

    def test_rules_without_beacons(self):
        self.assert_rows(True, (), book_made("sums", [([], False)]), ())
        self.assert_rows(False, (), book_made("sums", [([], True)]), ())
        self.assert_rows(False, self.rows, book_made("sums", list(self.book[1]) + [([], True)]))

    def test_a_start_that_is_not_nought(self):
        book = book_made("sums", [([2, 3], True)])
        hands = (K, S, S, K)
        self.assert_rows(True, ((3, (2,), True),), book, hands, 1)
        self.assert_rows(True, ((3, (2,), True),), book, hands, 2)
        self.assert_rows(False, ((3, (2,), True),), book, hands, 0)
        self.assert_rows(False, ((0, (), True), (3, (2,), True)), book, hands, 1)
        self.assert_rows(True, ((0, (), True), (3, (2,), True)), book, hands, 0)


class Rows(Keeping):
    # 0 and 4 are the storm's. Beacon 1 follows from 0, 3 from 1 and 4, and 2 is never lit beside 1.
    book = book_made("ifs", [([0], 1), ([1, 4], 3), ([1, 2], None), ([], 5)])
    hands = (S, K, K, K, S, K)
    first = (1, 3, 5)
    rows = ((0, (5,)), (4, (1, 3, 5)))

    def assert_rows(self, so, first, rows, book=None, hands=None, start=0):
        # Of nots the same rules and papers are those of the exchanged book.
        book = book or self.book
        hands = self.hands if hands is None else hands
        self.assert_good(so, ("rows", first, rows), book, hands, start)
        self.assert_good(so, ("rows", first, rows), ("nots", book[1]), hands, start)

    def test_a_good_one(self):
        self.assert_rows(True, self.first, self.rows)
        self.assert_rows(True, self.first, ((0, (1, 3, 5)), (4, (1, 3, 5))))

    def test_no_rules_and_no_beacons(self):
        empty = ("ifs", ())
        self.assert_rows(True, (), (), empty, ())
        self.assert_rows(True, (), (), empty, (K,))
        self.assert_rows(True, (0,), (), empty, (K,))
        self.assert_rows(True, (), ((0, ()),), empty, (S,))
        self.assert_rows(True, (), (), empty, (K, S), 2)

    def test_the_kind(self):
        for kind in KINDS:
            self.assert_good(kind in ("ifs", "nots"), ("rows", (), ()), (kind, ()), (K,))

    def test_of_nots_lit_and_dark_are_exchanged(self):
        book = book_made("nots", [([0], 1)])
        # The storm's dark 0 makes the keeper's 1 dark.
        self.assert_good(True, ("rows", (1,), ((0, ()),)), book, (S, K))
        self.assert_good(True, ("rows", (1,), ((0, (1,)),)), book, (S, K))
        self.assert_good(False, ("rows", (), ((0, ()),)), book, (S, K))
        self.assert_good(False, ("rows", (), ((0, (1,)),)), book, (S, K))

    def test_the_first_beacons(self):
        empty = ("ifs", ())
        hands = (K, S, K, S)
        for first, so in (((), True), ((0,), True), ((2,), True), ((0, 2), True), ((2, 0), False), ((0, 0), False),
                          ((1,), False), ((3,), False), ((4,), False), ((0, 1), False), ((2, 2), False)):
            ahead = tuple(sorted({beacon for beacon in first if beacon == 0}))
            middle = tuple(sorted({beacon for beacon in first if beacon in (0, 2)}))
            self.assert_rows(so, first, ((1, ahead), (3, middle)), empty, hands)
        self.assert_rows(False, (0,), ((3, ()),), empty, hands, 2)
        self.assert_rows(True, (2,), ((3, (2,)),), empty, hands, 2)

    def test_the_beacons_of_the_rows(self):
        self.assert_rows(False, self.first, self.rows[:1])
        self.assert_rows(False, self.first, self.rows[1:])
        self.assert_rows(False, self.first, ())
        self.assert_rows(False, self.first, self.rows[::-1])
        self.assert_rows(False, self.first, self.rows + self.rows[1:])
        self.assert_rows(False, self.first, (self.rows[0], (1, (5,)), self.rows[1]))
        self.assert_rows(False, self.first, self.rows + ((6, (1, 3, 5)),))
        self.assert_rows(False, (), ((0, ()),), ("ifs", ()), (K,))

    def test_the_beacons_in_a_row(self):
        empty = ("ifs", ())
        hands = (S, K, K, S)
        for beacons, so in (((), True), ((1,), True), ((2,), True), ((1, 2), True), ((2, 1), False), ((1, 1), False),
                            ((0,), False), ((3,), False), ((4,), False)):
            self.assert_rows(so, (1,), ((0, beacons), (3, (1,))), empty, hands)

    def test_those_ahead_of_the_rows_beacon_are_just_the_first_ones(self):
        empty = ("ifs", ())
        hands = (K, K, S, K)
        for beacons, so in (((0,), True), ((0, 3), True), ((), False), ((1,), False), ((0, 1), False), ((3,), False)):
            self.assert_rows(so, (0,), ((2, beacons),), empty, hands)
            self.assert_rows(so, (0, 3), ((2, beacons),), empty, hands)

    def test_the_book_holds_with_all_the_storms_and_the_first_ones_lit(self):
        self.assert_rows(False, (1, 5), ((0, (5,)), (4, (1, 5))))
        self.assert_rows(False, (3, 5), ((0, (5,)), (4, (3, 5))))
        self.assert_rows(False, (1, 2, 3, 5), ((0, (5,)), (4, (1, 2, 3, 5))))
        self.assert_rows(False, (1, 3), self.rows)
        self.assert_rows(False, (), ((0, ()),), book_made("ifs", [([0], None)]), (S,))

    def test_the_book_holds_for_each_row(self):
        self.assert_rows(False, self.first, ((0, ()), self.rows[1]))
        self.assert_rows(False, self.first, ((0, (1, 5)), self.rows[1]))
        self.assert_rows(False, self.first, (self.rows[0], (4, (1, 3))))
        self.assert_rows(False, (), ((0, ()),), book_made("ifs", [([], 0)]), (S,))

    def test_a_void_rule(self):
        self.assert_rows(False, (), (), book_made("ifs", [([], None)]), ())

    def test_a_start_that_is_not_nought(self):
        book = book_made("ifs", [([2], 3), ([3], 4)])
        hands = (S, K, S, K, K)
        self.assert_rows(True, (3, 4), ((2, ()),), book, hands, 1)
        self.assert_rows(True, (3, 4), ((2, ()),), book, hands, 2)
        self.assert_rows(False, (3, 4), ((0, (3, 4)), (2, ())), book, hands, 1)
        self.assert_rows(True, (3, 4), ((0, (3, 4)), (2, ())), book, hands, 0)
        self.assert_rows(False, (1, 3, 4), ((2, (1,)),), book, hands, 2)
        self.assert_rows(True, (1, 3, 4), ((2, (1,)),), book, hands, 1)


class AnyPaper(unittest.TestCase):
    def test_a_storms_paper_is_never_good_for_the_keeper(self):
        for kind in KINDS:
            for book, hands, start in situations(kind, 2, 2, 3):
                for paper in storm_papers(book, hands, start):
                    self.assertIs(keeper_good(paper, book, hands, start), False, (paper, book, hands, start))

    def test_the_same_is_said_by_other_means(self):
        papers = list(wild_papers(2))
        for kind, every in (("eithers", 11), ("sums", 7), ("ifs", 13), ("nots", 29)):
            for book, hands, start in situations(kind, 2, 2, every):
                for paper in papers:
                    so = paper[0] in KEEPERS_WORDS and good_again(paper, book, hands, start, K)
                    self.assertIs(keeper_good(paper, book, hands, start), so, (paper, book, hands, start))

    def test_just_where_the_keeper_can_win_one_of_the_papers_is_good(self):
        for kind, every in (("eithers", 1), ("sums", 1), ("ifs", 2), ("nots", 3)):
            for book, hands, start in situations(kind, 3, 2, every):
                good = [keeper_good(paper, book, hands, start) for paper in keeper_papers(book, hands, start)]
                wins = keeper_wins(book, hands, (False,) * start)
                self.assertEqual(any(good), wins, (book, hands, start))


if __name__ == "__main__":
    unittest.main()
