"""Whether a paper is good for a hand (points 2, 15, 16, 17 and the interface's part on checking.py)."""

import unittest

from candidates import good_again, keeper_papers, storm_papers, wild_papers
from duskbook.books import book_made
from duskbook.checking import good
from duskbook.keeping import keeper_good
from duskbook.storming import storm_good
from samples import KINDS, situations

K, S = "keeper", "storm"

# For each paper: the hand it is for, a book, hands and a start that it is good for.
GOOD_ONES = [
    (K, ("plan", ((1, 0, True),)), book_made("eithers", [[(0, False), (1, True)]]), (S, K), 0),
    (K, ("plan", ((3, 2, False),)), book_made("eithers", [[(2, True), (3, True)]]), (K, S, S, K), 1),
    (K, ("sums", ((1, (0,), True),)), book_made("sums", [([0, 1], True)]), (S, K), 0),
    (K, ("rows", (1,), ((0, ()),)), book_made("ifs", [([0], 1)]), (S, K), 0),
    (K, ("rows", (1,), ((0, ()),)), book_made("nots", [([0], 1)]), (S, K), 0),
    (S, ("broken",), book_made("eithers", [[]]), (K,), 0),
    (S, ("broken",), book_made("sums", [([], True)]), (K,), 1),
    (S, ("broken",), book_made("ifs", [([], None)]), (), 0),
    (S, ("broken",), book_made("nots", [([], None)]), (K,), 0),
    (S, ("clash", ((0, True), (0, False)), ((0, False), (0, True))), book_made("eithers", [[(0, True)], [(0, False)]]),
     (K,), 0),
    (S, ("cross", ((0, True), (1, True))), book_made("eithers", [[(0, False), (1, True)]]), (S, S), 0),
    (S, ("late", ((1, True), (0, True)), ((0, True), (1, True))),
     book_made("eithers", [[(0, False), (1, True)], [(0, True), (1, False)]]), (K, S), 0),
    (S, ("odd", (0,)), book_made("sums", [([0, 1], True)]), (K, S), 0),
    (S, ("lone", 1, (0,), (1,)), book_made("ifs", [([1], 0), ([0], 1)]), (K, S), 0),
    (S, ("lone", None, (), (0,)), book_made("nots", [([0], None)]), (S,), 0),
]


class Checking(unittest.TestCase):
    def test_each_paper_is_good_for_its_hand_alone(self):
        for hand, paper, book, hands, start in GOOD_ONES:
            for row in (tuple(hands), list(hands)):
                with self.subTest(paper=paper, book=book):
                    self.assertIs(good(paper, book, row, start, hand), True)
                    self.assertIs(good(paper, book, row, start, S if hand == K else K), False)
                    self.assertEqual(list(row), list(hands))

    def test_a_paper_of_another_book_is_good_only_where_it_is_said_so(self):
        for hand, paper, book, hands, start in GOOD_ONES:
            for other in GOOD_ONES:
                for asked in (K, S):
                    so = good_again(paper, other[2], other[3], other[4], asked)
                    self.assertIs(good(paper, other[2], other[3], other[4], asked), so, (paper, other))

    def test_it_is_as_the_keepers_and_the_storms_say(self):
        papers = list(wild_papers(1))
        for kind in KINDS:
            for book, hands, start in situations(kind, 2, 2, 29):
                for paper in papers + keeper_papers(book, hands, start) + storm_papers(book, hands, start):
                    self.assertIs(good(paper, book, hands, start, K), keeper_good(paper, book, hands, start))
                    self.assertIs(good(paper, book, hands, start, S), storm_good(paper, book, hands, start))


if __name__ == "__main__":
    unittest.main()
