"""Papers as texts (points 2, 15, 25 and the interface's part on papertexts.py)."""

import copy
import unittest

from candidates import keeper_papers, storm_papers, wild_papers
from duskbook.errors import DuskError, NoPaper
from duskbook.papertexts import paper_read, paper_written
from plays import is_formed
from samples import situations
from spoilt import is_paper, near_texts

# Each form of paper, with none and with many parts, and its text.
TEXTS = [
    (("broken",), "broken"),
    (("clash", (), ()), "clash 0 0"),
    (("clash", ((0, True), (1, False)), ((1, False),)), "clash 2 +0 -1 1 -1"),
    (("clash", ((59, False),), ()), "clash 1 -59 0"),
    (("cross", ()), "cross 0"),
    (("cross", ((10, True), (10, True), (0, False))), "cross 3 +10 +10 -0"),
    (("late", (), ((3, True),)), "late 0 1 +3"),
    (("late", ((2, True), (1, True), (0, False)), ((0, False), (2, True))), "late 3 +2 +1 -0 2 -0 +2"),
    (("odd", ()), "odd 0"),
    (("odd", (0, 7, 60, 200)), "odd 4 0 7 60 200"),
    (("lone", None, (), ()), "lone none 0 0"),
    (("lone", None, (5,), (4, 3)), "lone none 1 5 2 4 3"),
    (("lone", 0, (), (100,)), "lone 0 0 1 100"),
    (("lone", 59, (1, 0), ()), "lone 59 2 1 0 0"),
    (("plan", ()), "plan 0"),
    (("plan", ((1, None, True), (2, 0, False))), "plan 2 1 none yes 2 0 no"),
    (("plan", ((59, 58, True),)), "plan 1 59 58 yes"),
    (("sums", ()), "sums 0"),
    (("sums", ((3, (), False), (4, (0, 1, 2), True))), "sums 2 3 0 no 4 3 0 1 2 yes"),
    (("rows", (), ()), "rows 0 0"),
    (("rows", (1,), ()), "rows 1 1 0"),
    (("rows", (), ((0, ()),)), "rows 0 1 0 0"),
    (("rows", (2, 3), ((0, (3,)), (1, ()))), "rows 2 2 3 2 0 1 3 1 0"),
]
# In whatever order, and however often.
LOOSE = [
    (("odd", (3, 1, 3, 3, 0)), "odd 5 3 1 3 3 0"),
    (("lone", 4, (9, 9), (2, 1, 2)), "lone 4 2 9 9 3 2 1 2"),
    (("cross", ((4, True), (4, False), (4, True))), "cross 3 +4 -4 +4"),
    (("plan", ((4, 4, True), (2, 9, False), (4, 4, True))), "plan 3 4 4 yes 2 9 no 4 4 yes"),
    (("sums", ((4, (5, 4, 4), True), (3, (1, 0), False), (4, (), True))), "sums 3 4 3 5 4 4 yes 3 2 1 0 no 4 0 yes"),
    (("rows", (3, 3, 1), ((2, (1, 0, 1)), (2, ()), (0, (9,)))), "rows 3 3 3 1 3 2 3 1 0 1 2 0 0 1 9"),
]


class PaperTextCase(unittest.TestCase):
    def assert_both_ways(self, paper, text):
        self.assertEqual(paper_written(paper), text)
        self.assertEqual(repr(paper_read(text)), repr(paper))

    def assert_refused(self, text):
        with self.assertRaises(NoPaper, msg=repr(text)) as caught:
            paper_read(text)
        self.assertIs(type(caught.exception), NoPaper)
        self.assertIsInstance(caught.exception, DuskError)
        self.assertIsInstance(caught.exception, ValueError)


class WrittenAndRead(PaperTextCase):
    def test_each_form(self):
        for paper, text in TEXTS:
            self.assertTrue(is_formed(paper), paper)
            self.assert_both_ways(paper, text)

    def test_as_it_stands(self):
        for paper, text in LOOSE:
            self.assertTrue(is_formed(paper), paper)
            self.assert_both_ways(paper, text)

    def test_the_greatest_counts_and_numbers(self):
        places = tuple(range(200, 0, -1))
        self.assert_both_ways(("odd", places), "odd 200 " + " ".join(map(str, places)))
        self.assert_both_ways(("odd", (200,) * 200), "odd 200" + " 200" * 200)
        self.assert_both_ways(("cross", ((59, True),) * 200), "cross 200" + " +59" * 200)
        self.assert_both_ways(("plan", ((59, None, False),) * 200), "plan 200" + " 59 none no" * 200)
        row = " 59 200" + " 58" * 200
        self.assert_both_ways(("rows", (), ((59, (58,) * 200),) * 200), "rows 0 200" + row * 200)

    def test_every_beacon_and_every_place(self):
        for beacon in range(60):
            self.assert_both_ways(("plan", ((beacon, beacon, True),)), f"plan 1 {beacon} {beacon} yes")
            self.assert_both_ways(("cross", ((beacon, False), (beacon, True))), f"cross 2 -{beacon} +{beacon}")
            self.assert_both_ways(("rows", (beacon,), ((beacon, (beacon,)),)), f"rows 1 {beacon} 1 {beacon} 1 {beacon}")
            self.assert_both_ways(("lone", beacon, (), ()), f"lone {beacon} 0 0")
        for place in range(201):
            self.assert_both_ways(("lone", None, (place,), (place, place)), f"lone none 1 {place} 2 {place} {place}")

    def test_papers_of_small_books(self):
        for kind, every in (("eithers", 29), ("sums", 13), ("ifs", 61), ("nots", 97)):
            for book, hands, start in situations(kind, 3, 2, every):
                for paper in keeper_papers(book, hands, start) + storm_papers(book, hands, start):
                    text = paper_written(paper)
                    self.assertTrue(is_paper(text), text)
                    self.assertEqual(repr(paper_read(text)), repr(paper))

    def test_wild_papers(self):
        for place, paper in enumerate(wild_papers(2)):
            if place % 7 == 0 and "-1" not in repr(paper):
                text = paper_written(paper)
                self.assertTrue(is_paper(text), text)
                self.assertEqual(repr(paper_read(text)), repr(paper))

    def test_unlike_papers_have_unlike_texts(self):
        texts = [text for paper, text in TEXTS + LOOSE]
        self.assertEqual(len({paper_written(paper_read(text)) for text in texts}), len(texts))

    def test_what_is_handed_in_stays(self):
        for paper, text in TEXTS + LOOSE:
            kept = copy.deepcopy(paper)
            paper_written(paper)
            self.assertEqual(paper, kept)


class Refused(PaperTextCase):
    def test_first_words(self):
        for text in ("", " ", "\n", "brok", "Broken", "BROKEN", "won", "keeper", "none", "0", "plan", "sums", "rows", "odd",
                     "clash", "cross", "late", "lone", "eithers", "keeper plan 0", "broken\n", " broken", "broken ",
                     "broken 0", "broken broken", "\tbroken", "plans 0", "road 0", "plan rows 0"):
            self.assert_refused(text)

    def test_a_paper_cut_off_and_words_behind_its_end(self):
        for paper, text in TEXTS + LOOSE:
            words = text.split(" ")
            for count in range(len(words)):
                self.assert_refused(" ".join(words[:count]))
                if count:
                    self.assert_refused(" ".join(words[:count]) + " ")
            for more in ("0", "1", "none", "yes", "+0", "broken", "", " ", "x"):
                self.assert_refused(f"{text} {more}")

    def test_blanks_tabs_and_line_feeds(self):
        for paper, text in TEXTS + LOOSE:
            for sign in ("\n", "\t", " ", "\r", "\x0b", "\u00a0", "\u2028", "\x00"):
                self.assert_refused(text + sign)
                self.assert_refused(sign + text)
                if " " in text:
                    self.assert_refused(text.replace(" ", " " + sign))
                    self.assert_refused(text.replace(" ", " " + sign, 1))
                    if sign != " ":
                        self.assert_refused(text.replace(" ", sign))
                        self.assert_refused(text.replace(" ", sign, 1))

    def test_numbers(self):
        for number in ("00", "01", "001", "0200", "201", "202", "999", "1000", "2000", "-0", "-1", "+0", "+1", "", "a", "1.0",
                       "1_0", "0x1", "none", "yes", "\u0661", "\u00b9", "\uff11", "True", "1e2", "I"):
            for form in ("odd {0}", "odd 1 {0}", "odd 2 0 {0}", "odd 2 {0} 0", "cross {0}", "clash 0 {0}", "clash {0} 0",
                         "late {0} 0", "late 0 {0}", "lone none {0} 0", "lone none 0 {0}", "lone none 1 {0} 0",
                         "lone none 0 1 {0}", "lone 0 2 0 {0} 0", "plan {0}", "sums {0}", "sums 1 0 {0} yes", "rows {0} 0",
                         "rows 0 {0}", "rows 0 1 0 {0}"):
                self.assert_refused(form.format(number))

    def test_beacons(self):
        for beacon in ("00", "01", "059", "60", "61", "99", "100", "200", "1000", "-1", "+1", "-0", "", "a", "1.0", "yes",
                       "\u0661", "None", "NONE", "True", "0 0"):
            for form in ("lone {0} 0 0", "plan 1 {0} 0 yes", "plan 1 0 {0} yes", "plan 2 0 0 no 1 {0} no",
                         "sums 1 {0} 0 yes", "sums 1 0 1 {0} yes", "sums 1 0 2 0 {0} no", "rows 1 {0} 0", "rows 0 1 {0} 0",
                         "rows 0 1 0 1 {0}", "rows 2 0 {0} 0"):
                self.assert_refused(form.format(beacon))

    def test_a_beacon_that_may_not_be_none(self):
        for text in ("plan 1 none 0 yes", "sums 1 none 0 yes", "sums 1 0 1 none yes", "rows 1 none 0", "rows 0 1 none 0",
                     "rows 0 1 0 1 none"):
            self.assert_refused(text)

    def test_sayings(self):
        for saying in ("0", "+", "-", "+00", "+01", "+60", "-60", "+100", "++0", "+-0", "0+", "+a", "", "none", "yes", "+ 0",
                       "*0", "+1.0", "+\u0661", "(0,True)", "-059"):
            for form in ("cross 1 {0}", "cross 2 +0 {0}", "clash 1 {0} 0", "clash 0 1 {0}", "late 1 {0} 1 +0",
                         "late 1 +0 1 {0}"):
                self.assert_refused(form.format(saying))

    def test_truths(self):
        for truth in ("Yes", "NO", "y", "n", "true", "True", "1", "0", "lit", "dark", "odd", "even", "none", "", "yes,"):
            for form in ("plan 1 0 none {0}", "plan 2 0 none {0} 1 none yes", "sums 1 0 0 {0}", "sums 1 0 1 0 {0}"):
                self.assert_refused(form.format(truth))

    def test_counts_that_do_not_fit(self):
        for text in ("odd 1", "odd 0 1", "odd 2 1", "odd 1 1 1", "cross 2 +0", "cross 1 +0 +1", "clash 1 +0", "late 2 +0 -0",
                     "plan 1", "plan 2 0 none yes", "plan 0 0 none yes", "plan 1 0 yes", "plan 1 0 none", "sums 1 0 1 yes",
                     "sums 1 0 0 1 yes", "sums 2 0 0 yes", "rows 1 0", "rows 0", "rows 0 2 0 0", "rows 0 1 0",
                     "rows 0 1 0 1", "rows 0 1 0 0 0", "lone 0 0", "lone none 0", "lone 0 0 1", "lone 0 0 0 0"):
            self.assert_refused(text)
        self.assert_refused("odd 201" + " 0" * 201)
        self.assert_refused("plan 201" + " 0 none no" * 201)
        self.assert_refused("cross 201" + " +0" * 201)
        self.assert_refused("rows 0 1 0 201" + " 0" * 201)

    def test_a_good_text_is_read_behind_one_that_is_refused(self):
        for paper, text in TEXTS:
            self.assert_refused(text + " 0 0")
            self.assert_refused(text.rpartition(" ")[0])
            self.assertEqual(paper_read(text), paper)

    def test_whatever_is_spoilt_in_one_place(self):
        read = 0
        for paper, text in TEXTS + LOOSE:
            for other in near_texts(text):
                if is_paper(other):
                    read += 1
                    again = paper_read(other)
                    self.assertTrue(is_formed(again), other)
                    self.assertEqual(paper_written(again), other)
                else:
                    self.assert_refused(other)
        self.assertGreater(read, 500)


if __name__ == "__main__":
    unittest.main()
