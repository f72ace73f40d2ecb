"""The storm's papers (points 2, 15, 16, 17 and the interface's part on storming.py)."""

import unittest

from candidates import STORMS_WORDS, good_again, keeper_papers, storm_papers, wild_papers
from duskbook.books import book_made
from duskbook.keeping import keeper_good
from duskbook.storming import storm_good
from samples import KINDS, keeper_wins, situations

K, S = "keeper", "storm"


class Storming(unittest.TestCase):
    def assert_good(self, so, paper, book, hands, start=0):
        for row in (tuple(hands), list(hands)):
            with self.subTest(paper=paper, book=book, hands=hands, start=start):
                self.assertIs(storm_good(paper, book, row, start), so)
                self.assertEqual(list(row), list(hands))


class Broken(Storming):
    void = {"eithers": (), "sums": ((), True), "ifs": ((), None), "nots": ((), None)}
    other = {"eithers": ((0, True),), "sums": ((), False), "ifs": ((), 0), "nots": ((0,), None)}

    def test_some_rule_is_void(self):
        for kind in KINDS:
            for rules in ((self.void[kind],), (self.other[kind], self.void[kind]), (self.void[kind], self.other[kind])):
                for hands in ((K,), (S,), (S, K)):
                    self.assert_good(True, ("broken",), (kind, rules), hands)
            self.assert_good(True, ("broken",), (kind, (self.void[kind],)), ())
            self.assert_good(True, ("broken",), (kind, (self.void[kind],)), (K, S), 2)

    def test_none_is_void(self):
        for kind in KINDS:
            self.assert_good(False, ("broken",), (kind, ()), ())
            self.assert_good(False, ("broken",), (kind, (self.other[kind],) * 2), (S,))


class Clashes(Storming):
    # 0 lit leads by 1 to 0 dark, and back.
    book = book_made("eithers", [[(0, False), (1, True)], [(1, False), (0, False)], [(0, True)]])
    there = ((0, True), (1, True), (0, False))
    back = ((0, False), (0, True))

    def test_a_good_one_whosever_the_beacons_are(self):
        for hands in ((K, K), (K, S), (S, K), (S, S)):
            self.assert_good(True, ("clash", self.there, self.back), self.book, hands)
            self.assert_good(True, ("clash", self.back, self.there), self.book, hands)

    def test_the_kind(self):
        for kind in ("sums", "ifs", "nots"):
            self.assert_good(False, ("clash", ((0, True),), ((0, True),)), (kind, ()), (K, S))

    def test_each_is_a_road(self):
        self.assert_good(False, ("clash", ((0, True), (0, False)), self.back), self.book, (K, K))
        self.assert_good(False, ("clash", self.there, ((0, False), (1, True), (0, True))), self.book, (K, K))
        self.assert_good(False, ("clash", self.there, self.back), ("eithers", self.book[1][:2]), (K, K))
        self.assert_good(False, ("clash", self.there, self.back), ("eithers", self.book[1][1:]), (K, K))

    def test_roads_of_no_sayings(self):
        self.assert_good(False, ("clash", (), ()), self.book, (K, K))
        self.assert_good(False, ("clash", self.there, ()), self.book, (K, K))
        self.assert_good(False, ("clash", (), self.back), self.book, (K, K))

    def test_the_first_leads_to_the_contrary(self):
        book = book_made("eithers", [[(0, False), (1, True)], [(0, True), (1, False)]])
        self.assert_good(False, ("clash", ((0, True), (1, True)), ((1, True), (0, True))), book, (K, K))
        self.assert_good(False, ("clash", ((0, True),), ((0, True),)), book, (K, K))

    def test_the_second_begins_with_the_contrary(self):
        self.assert_good(False, ("clash", self.there, self.there[2:]), self.book, (K, K))
        self.assert_good(False, ("clash", self.there, ((0, True),)), self.book, (K, K))
        self.assert_good(False, ("clash", self.there, self.there), self.book, (K, K))
        # From 1 dark, which the first road does not end with, back to 0 lit.
        book = book_made("eithers", list(self.book[1]) + [[(1, True), (0, True)]])
        self.assert_good(False, ("clash", self.there, ((1, False), (0, True))), book, (K, K))

    def test_the_second_leads_back(self):
        book = book_made("eithers", list(self.book[1]) + [[(0, True), (1, False)]])
        self.assert_good(True, ("clash", self.there, self.back), book, (K, K))
        self.assert_good(False, ("clash", self.there, ((0, False), (1, False))), book, (K, K))
        self.assert_good(False, ("clash", self.there, ((0, False),)), book, (K, K))

    def test_a_start_that_is_not_nought(self):
        book = book_made("eithers", [[(3, True)], [(3, False)]])
        self.assert_good(True, ("clash", ((3, True), (3, False)), ((3, False), (3, True))), book, (S, S, K, K), 3)


class Crosses(Storming):
    # 0 lit leads by 1 to 2 dark.
    book = book_made("eithers", [[(0, False), (1, True)], [(1, False), (2, False)]])
    road = ((0, True), (1, True), (2, False))
    back = ((2, True), (1, False), (0, False))

    def test_a_good_one(self):
        self.assert_good(True, ("cross", self.road), self.book, (S, K, S))
        self.assert_good(True, ("cross", self.back), self.book, (S, K, S))
        self.assert_good(True, ("cross", self.road), self.book, (S, S, S))
        self.assert_good(True, ("cross", self.road[:2]), self.book, (S, S, S))

    def test_the_kind(self):
        for kind in ("sums", "ifs", "nots"):
            self.assert_good(False, ("cross", ((0, True), (1, True))), (kind, ()), (S, S))

    def test_it_is_a_road(self):
        self.assert_good(False, ("cross", ((0, True), (2, False))), self.book, (S, K, S))
        self.assert_good(False, ("cross", ((0, False), (1, True), (2, False))), self.book, (S, K, S))
        self.assert_good(False, ("cross", self.road[::-1]), self.book, (S, K, S))
        self.assert_good(False, ("cross", self.road), ("eithers", self.book[1][1:]), (S, K, S))

    def test_a_road_of_no_sayings(self):
        self.assert_good(False, ("cross", ()), self.book, (S, K, S))
        self.assert_good(False, ("cross", ()), ("eithers", ()), ())

    def test_both_are_the_storms(self):
        for hands in ((K, K, S), (S, K, K), (K, S, K), (K, S, S), (S, S, K)):
            self.assert_good(False, ("cross", self.road), self.book, hands)
        self.assert_good(False, ("cross", self.road), self.book, (S, K))

    def test_to_an_unlike_one(self):
        book = book_made("eithers", [[(0, False), (1, True)], [(0, True), (1, False)]])
        self.assert_good(False, ("cross", ((0, True),)), book, (S, S))
        self.assert_good(False, ("cross", ((0, True), (1, True), (0, True))), book, (S, S))
        self.assert_good(False, ("cross", ((0, True), (0, True))), book_made("eithers", [[(0, True), (0, False)]]), (S,))

    def test_to_its_contrary(self):
        self.assert_good(True, ("cross", ((0, False), (0, True))), book_made("eithers", [[(0, True)]]), (S,))
        self.assert_good(True, ("cross", ((0, True), (0, False))), book_made("eithers", [[(0, False)]]), (S,))
        self.assert_good(False, ("cross", ((0, False), (0, True))), book_made("eithers", [[(0, True)]]), (K,))
        self.assert_good(False, ("cross", ((0, True), (0, False))), book_made("eithers", [[(0, True)]]), (S,))

    def test_a_start_that_is_not_nought(self):
        book = book_made("eithers", [[(2, False), (3, True)]])
        for start in range(3):
            self.assert_good(True, ("cross", ((2, True), (3, True))), book, (K, K, S, S), start)


class Lates(Storming):
    # 0 and 2 are lit and dark together, by 1 in the one way.
    book = book_made("eithers", [[(2, False), (1, True)], [(1, False), (0, True)], [(0, False), (2, True)]])
    there = ((2, True), (1, True), (0, True))
    back = ((0, True), (2, True))

    def test_a_good_one(self):
        self.assert_good(True, ("late", self.there, self.back), self.book, (K, K, S))
        self.assert_good(True, ("late", self.there, self.back), self.book, (K, S, S))
        dark = ("late", ((2, False), (0, False)), ((0, False), (1, False), (2, False)))
        self.assert_good(True, dark, self.book, (K, K, S))

    def test_the_kind(self):
        for kind in ("sums", "ifs", "nots"):
            self.assert_good(False, ("late", ((1, True),), ((0, True),)), (kind, ()), (K, S))

    def test_each_is_a_road(self):
        self.assert_good(False, ("late", ((2, True), (0, True)), self.back), self.book, (K, K, S))
        self.assert_good(False, ("late", self.there, ((0, True), (1, True), (2, True))), self.book, (K, K, S))
        self.assert_good(False, ("late", self.there, self.back), ("eithers", self.book[1][:2]), (K, K, S))
        self.assert_good(False, ("late", self.there, self.back), ("eithers", self.book[1][1:]), (K, K, S))

    def test_roads_of_no_sayings(self):
        self.assert_good(False, ("late", (), ()), self.book, (K, K, S))
        self.assert_good(False, ("late", self.there, ()), self.book, (K, K, S))
        self.assert_good(False, ("late", (), self.back), self.book, (K, K, S))

    def test_the_first_begins_with_a_storms_beacon(self):
        self.assert_good(False, ("late", self.there, self.back), self.book, (K, K, K))
        self.assert_good(False, ("late", self.there, self.back), self.book, (K, S, K))

    def test_the_first_ends_with_a_keepers_beacon(self):
        self.assert_good(False, ("late", self.there, self.back), self.book, (S, K, S))
        self.assert_good(False, ("late", self.there, self.back), self.book, (S, S, S))

    def test_the_keepers_one_is_less(self):
        book = book_made("eithers", [[(0, False), (1, True)], [(0, True), (1, False)]])
        self.assert_good(True, ("late", ((1, True), (0, True)), ((0, True), (1, True))), book, (K, S))
        self.assert_good(False, ("late", ((0, True), (1, True)), ((1, True), (0, True))), book, (S, K))
        self.assert_good(False, ("late", ((0, True),), ((0, True),)), book, (S, K))

    def test_the_second_begins_where_the_first_ends(self):
        self.assert_good(False, ("late", self.there, ((1, True), (0, True), (2, True))), self.book, (K, K, S))
        self.assert_good(False, ("late", self.there, ((2, True),)), self.book, (K, K, S))

    def test_the_second_leads_back(self):
        self.assert_good(False, ("late", self.there, ((0, True),)), self.book, (K, K, S))
        self.assert_good(False, ("late", self.there, ((0, True), (2, True), (1, True))), self.book, (K, K, S))
        self.assert_good(True, ("late", self.there, ((0, True), (2, True), (1, True), (0, True), (2, True))),
                         self.book, (K, K, S))

    def test_a_start_that_is_not_nought(self):
        book = book_made("eithers", [[(2, False), (3, False)], [(2, True), (3, True)]])
        for start in range(3):
            self.assert_good(True, ("late", ((3, True), (2, False)), ((2, False), (3, True))), book, (S, K, K, S), start)


class Odds(Storming):
    book = book_made("sums", [([0, 2], True), ([1, 2], False), ([0, 1], False), ([0], True), ([], False), ([2], False)])

    def test_a_sum_that_is_void(self):
        for hands in ((K, K, K), (S, K, K), (S, S, S)):
            self.assert_good(True, ("odd", (0, 1, 2)), self.book, hands)
            self.assert_good(True, ("odd", (0, 1, 2, 4)), self.book, hands)
        self.assert_good(True, ("odd", (0,)), book_made("sums", [([], True)]), ())
        self.assert_good(True, ("odd", (0,)), book_made("sums", [([], True)]), (K, K), 2)

    def test_a_sum_with_a_storms_beacon_as_its_last_one(self):
        self.assert_good(True, ("odd", (0,)), self.book, (K, K, S))
        self.assert_good(True, ("odd", (0, 1)), self.book, (K, S, K))
        self.assert_good(True, ("odd", (0, 2)), self.book, (K, K, S))
        self.assert_good(True, ("odd", (3,)), self.book, (S, K, K))
        self.assert_good(True, ("odd", (0, 5)), self.book, (S, K, K))

    def test_a_sum_with_a_keepers_beacon_as_its_last_one(self):
        self.assert_good(False, ("odd", (0,)), self.book, (S, S, K))
        self.assert_good(False, ("odd", (0, 1)), self.book, (S, K, S))
        self.assert_good(False, ("odd", (3,)), self.book, (K, S, S))

    def test_a_sum_that_is_empty_and_even(self):
        self.assert_good(False, ("odd", ()), self.book, (S, S, S))
        self.assert_good(False, ("odd", (4,)), self.book, (S, S, S))
        even = book_made("sums", [([0, 1], True), ([1, 2], True), ([0, 2], False)])
        self.assert_good(False, ("odd", (0, 1, 2)), even, (S, S, S))
        self.assert_good(False, ("odd", ()), ("sums", ()), ())

    def test_the_kind(self):
        self.assert_good(False, ("odd", (0,)), book_made("eithers", [[]]), (S,))
        for kind in ("ifs", "nots"):
            self.assert_good(False, ("odd", (0,)), book_made(kind, [([], None)]), (S,))
            self.assert_good(False, ("odd", (0,)), book_made(kind, [([0], 0)]), (S,))

    def test_the_places_are_the_books(self):
        for places in ((-1,), (6,), (-3,), (0, 6), (-6, 1), (0, 10 ** 20), (-10 ** 20, 0)):
            self.assert_good(False, ("odd", places), self.book, (S, S, S))
        self.assert_good(False, ("odd", (0,)), ("sums", ()), (S,))
        self.assert_good(False, ("odd", (-1,)), book_made("sums", [([], True)]), (S,))

    def test_the_places_rise_each_once(self):
        self.assert_good(False, ("odd", (1, 0)), self.book, (S, S, S))
        self.assert_good(False, ("odd", (0, 0, 0)), self.book, (S, S, S))
        self.assert_good(False, ("odd", (0, 0, 1)), self.book, (S, S, S))
        self.assert_good(False, ("odd", (0, 2, 1)), self.book, (S, S, S))

    def test_a_start_that_is_not_nought(self):
        book = book_made("sums", [([2, 3], True)])
        for start in range(3):
            self.assert_good(True, ("odd", (0,)), book, (K, K, K, S), start)
            self.assert_good(False, ("odd", (0,)), book, (S, S, S, K), start)


class Lones(Storming):
    # 2 and 4 are the storm's. Lit 2 and 4 ask for 1, this for 3, this and 2 forbid 4 to be dark: by rule 2.
    book = book_made("ifs", [([2, 4], 1), ([1], 3), ([2, 3], 4), ([1, 3, 5], None), ([0], 0)])
    hands = (K, K, S, K, S, K)
    paper = ("lone", 4, (0, 1), (2,))

    def assert_paper(self, so, paper, book=None, hands=None, start=0):
        # Of nots the same rules and papers are those of the exchanged book.
        book = book or self.book
        hands = self.hands if hands is None else hands
        self.assert_good(so, paper, book, hands, start)
        self.assert_good(so, paper, ("nots", book[1]), hands, start)

    def test_good_ones(self):
        self.assert_paper(True, self.paper)
        self.assert_paper(True, ("lone", 4, (0,), (1, 2)))
        self.assert_paper(True, ("lone", 4, (0, 1, 0), (1, 1, 2)))

    def test_good_ones_without_a_beacon(self):
        book = book_made("ifs", [([0], 1), ([1], None)])
        self.assert_paper(True, ("lone", None, (), (0, 1)), book, (S, K))
        self.assert_paper(True, ("lone", None, (), (0,)), book_made("ifs", [([], None)]), ())
        self.assert_paper(True, ("lone", None, (), (0,)), book_made("ifs", [([0], None)]), (S,))

    def test_good_ones_whose_last_rule_has_no_head(self):
        book = book_made("ifs", [([0], 1), ([1], None)])
        self.assert_paper(True, ("lone", 2, (), (0, 1)), book, (S, K, S))
        self.assert_paper(True, ("lone", 2, (0,), (1,)), book, (S, K, S))

    def test_a_good_one_whose_rule_is_the_beacon_alone(self):
        self.assert_paper(True, ("lone", 0, (), (0,)), book_made("ifs", [([], 0)]), (S,))

    def test_of_nots_lit_and_dark_are_exchanged(self):
        # Not both dark: of ifs both would have to be lit for it to be broken.
        for kind in ("ifs", "nots"):
            self.assert_good(True, ("lone", None, (), (0,)), book_made(kind, [([0, 1], None)]), (S, S))

    def test_the_kind(self):
        self.assert_good(False, ("lone", None, (), (0,)), book_made("sums", [([], True)]), (S,))
        self.assert_good(False, ("lone", None, (), (0,)), book_made("eithers", [[]]), (S,))
        self.assert_good(False, ("lone", 0, (), (0,)), book_made("sums", [([0], True)]), (S,))

    def test_the_beacon_is_a_storms_one(self):
        void = book_made("ifs", [([], None)])
        for beacon, so in ((0, False), (1, True), (2, False), (3, False), (59, False), (None, True)):
            self.assert_paper(so, ("lone", beacon, (), (0,)), void, (K, S, K))
        for beacon, so in ((0, False), (1, False), (2, True)):
            self.assert_paper(so, ("lone", beacon, (), (0,)), void, (S, K, S), 1)
        self.assert_paper(False, ("lone", 0, (), (0,)), book_made("ifs", [([], 0)]), (K,))

    def test_the_first_places_are_a_derivation_from_all_storms(self):
        self.assert_paper(False, ("lone", 4, (1, 0), (2,)))
        self.assert_paper(False, ("lone", 4, (0, 1, 3), (2,)))
        self.assert_paper(False, ("lone", 4, (0, 1, 4), (2,)))
        for place in (-1, -5, 5, 10 ** 20):
            self.assert_paper(False, ("lone", 4, (0, 1, place), (2,)))
        # Rule 0 needs the beacon itself, which is among all storm's beacons.
        self.assert_paper(False, self.paper, hands=(K, K, K, K, S, K))

    def test_where_the_beacon_is_none_the_first_places_are_empty(self):
        book = book_made("ifs", [([0], 1), ([0], None)])
        self.assert_paper(True, ("lone", None, (), (1,)), book, (S, K))
        self.assert_paper(False, ("lone", None, (0,), (1,)), book, (S, K))

    def test_the_first_ones_are_less_than_the_beacon(self):
        book = book_made("ifs", [([1], 2), ([2], 1)])
        # 2 comes behind 1: what all storm's beacons derive is not known of it when 1 is settled.
        self.assert_paper(False, ("lone", 1, (0,), (1,)), book, (K, S, K))
        book = book_made("ifs", [([1], 0), ([0], 1)])
        self.assert_paper(True, ("lone", 1, (0,), (1,)), book, (K, S, K))

    def test_the_first_ones_are_keepers_beacons(self):
        # 0 is the storm's and so among the facts already; 1, the beacon, is none of the first ones.
        book = book_made("ifs", [([0], 1), ([1], None)])
        self.assert_paper(False, ("lone", 1, (0,), (1,)), book, (S, S))
        self.assert_paper(True, ("lone", 1, (), (0,)), book, (S, S))

    def test_the_first_ones_are_heads_of_the_first_places_alone(self):
        self.assert_paper(False, ("lone", 4, (), (2,)))
        self.assert_paper(False, ("lone", 4, (0,), (2,)))
        self.assert_paper(False, ("lone", 4, (), (1, 2)))

    def test_the_first_ones_are_from_the_start_on(self):
        book = book_made("ifs", [([3], 2), ([2], 3)])
        for start in range(3):
            self.assert_paper(True, ("lone", 3, (0,), (1,)), book, (S, K, K, S), start)

    def test_the_second_places_are_not_empty(self):
        self.assert_paper(False, ("lone", 4, (0, 1), ()))
        self.assert_paper(False, ("lone", None, (), ()))
        self.assert_paper(False, ("lone", None, (), ()), book_made("ifs", [([], None)]))

    def test_the_second_places_are_a_derivation_without_the_beacon(self):
        book = book_made("ifs", [([0], 1), ([1], None), ([], 2)])
        self.assert_paper(False, ("lone", 0, (), (0, 1)), book, (S, K, K))
        self.assert_paper(True, ("lone", None, (), (0, 1)), book, (S, K, K))
        self.assert_paper(True, ("lone", None, (), (2, 0, 2, 1)), book, (S, K, K))
        for place in (-1, -3, 3, 10 ** 20, 1):
            self.assert_paper(False, ("lone", None, (), (0, place, 1)), book, (S, K, K))

    def test_the_last_one_is_the_place_of_a_rule(self):
        for place in (-1, -2, -3, 5, 6, 10 ** 20, -10 ** 20):
            self.assert_paper(False, ("lone", 4, (0, 1), (place,)))
        void = book_made("ifs", [([], None)])
        self.assert_paper(False, ("lone", None, (), (-1,)), void)
        self.assert_paper(False, ("lone", None, (), (1,)), void)
        self.assert_paper(False, ("lone", None, (), (0,)), ("ifs", ()))

    def test_the_last_body_has_only_what_is_derived(self):
        self.assert_paper(False, ("lone", 4, (0, 1), (3,)))
        book = book_made("ifs", [([0], None), ([1, 0], 1)])
        self.assert_paper(False, ("lone", 0, (), (0,)), book, (S, S))
        self.assert_paper(False, ("lone", 1, (), (1,)), book, (S, S))
        self.assert_paper(True, ("lone", 1, (), (0,)), book, (S, S))

    def test_the_last_head_is_none_or_the_beacon(self):
        book = book_made("ifs", [([0], 1), ([0], 2), ([0], 3), ([0], None)])
        hands = (S, K, S, S)
        for last, so in ((0, False), (1, True), (2, False), (3, True)):
            self.assert_paper(so, ("lone", 2, (), (last,)), book, hands)
        for last, so in ((0, False), (1, False), (2, False), (3, True)):
            self.assert_paper(so, ("lone", None, (), (last,)), book, hands)

    def test_a_start_that_is_not_nought(self):
        book = book_made("ifs", [([2], 3), ([3], None)])
        for start in range(3):
            self.assert_paper(True, ("lone", None, (), (0, 1)), book, (K, S, S, K), start)


class AnyPaper(unittest.TestCase):
    def test_a_keepers_paper_is_never_good_for_the_storm(self):
        for kind in KINDS:
            for book, hands, start in situations(kind, 2, 2, 3):
                for paper in keeper_papers(book, hands, start):
                    self.assertIs(storm_good(paper, book, hands, start), False, (paper, book, hands, start))

    def test_the_same_is_said_by_other_means(self):
        papers = list(wild_papers(2))
        for kind, every in (("eithers", 11), ("sums", 7), ("ifs", 13), ("nots", 29)):
            for book, hands, start in situations(kind, 2, 2, every):
                for paper in papers:
                    so = paper[0] in STORMS_WORDS and good_again(paper, book, hands, start, S)
                    self.assertIs(storm_good(paper, book, hands, start), so, (paper, book, hands, start))

    def test_just_where_the_storm_can_win_one_of_the_papers_is_good(self):
        for kind, every in (("eithers", 1), ("sums", 1), ("ifs", 2), ("nots", 3)):
            for book, hands, start in situations(kind, 3, 2, every):
                good = [storm_good(paper, book, hands, start) for paper in storm_papers(book, hands, start)]
                wins = not keeper_wins(book, hands, (False,) * start)
                self.assertEqual(any(good), wins, (book, hands, start))


class NeverBoth(unittest.TestCase):
    def assert_never_both(self, keeps, storms, book, hands, start):
        kept = [paper for paper in keeps if keeper_good(paper, book, hands, start)]
        broken = [paper for paper in storms if storm_good(paper, book, hands, start)]
        self.assertFalse(kept and broken, (kept[:1], broken[:1], book, hands, start))
        return bool(kept), bool(broken)

    def test_over_small_books_just_one_hand_has_a_good_paper(self):
        for kind, every in (("eithers", 7), ("sums", 2), ("ifs", 17), ("nots", 19)):
            for book, hands, start in situations(kind, 3, 3, every):
                keeps, storms = keeper_papers(book, hands, start), storm_papers(book, hands, start)
                told = self.assert_never_both(keeps, storms, book, hands, start)
                self.assertEqual(len(set(told)), 2, (book, hands, start))

    def test_over_papers_of_all_forms(self):
        papers = list(wild_papers(2))
        for kind in KINDS:
            for book, hands, start in situations(kind, 2, 2, 11):
                self.assert_never_both(papers, papers, book, hands, start)


if __name__ == "__main__":
    unittest.main()
