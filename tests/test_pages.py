"""Pages (points 2, 4, 19, 24 and the interface's part on pages.py)."""

import copy
import itertools
import unittest

from duskbook.books import book_made
from duskbook.errors import DuskError, NoPage
from duskbook.pages import page_read, page_written
from duskbook.watches import Watch
from plays import settled
from samples import KINDS, evenings_of, situations
from spoilt import is_page, near_texts

K, S = "keeper", "storm"

# Of each kind a page with each part that there is, and what it tells.
PAGES = {
    "eithers": "kind eithers\nhands ksk\nrule -0 +2\nrule\nrule -1\nrule -1 +1\nsettled 10",
    "sums": "kind sums\nhands ksk\nrule odd 0 2\nrule even\nrule odd\nrule even 0 1 2\nsettled 10",
    "ifs": "kind ifs\nhands ksk\nrule 0 1 > 2\nrule >\nrule > 1\nrule 0 2 >\nrule 1 > 1\nsettled 10",
    "nots": "kind nots\nhands ksk\nrule 0 1 > 2\nrule >\nrule > 1\nrule 0 2 >\nrule 1 > 1\nsettled 10",
}
IF_RULES = (((0, 1), 2), ((), None), ((), 1), ((0, 2), None), ((1,), 1))
RULES = {
    "eithers": (((0, False), (2, True)), (), ((1, False),), ((1, False), (1, True))),
    "sums": (((0, 2), True), ((), False), ((), True), ((0, 1, 2), False)),
    "ifs": IF_RULES, "nots": IF_RULES,
}


class PageCase(unittest.TestCase):
    def assert_read(self, text, book, hands, evening):
        watch = page_read(text)
        self.assertIs(type(watch), Watch)
        self.assertEqual(repr(watch.book), repr(book), text)
        self.assertEqual(tuple(watch.hands), tuple(hands), text)
        self.assertEqual(repr(watch.evening()), repr(tuple(evening)), text)

    def assert_both_ways(self, text, book, hands, evening):
        self.assertEqual(page_written(settled(book, hands, evening)), text)
        self.assert_read(text, book, hands, evening)

    def assert_refused(self, text):
        with self.assertRaises(NoPage, msg=repr(text)) as caught:
            page_read(text)
        self.assertIs(type(caught.exception), NoPage)
        self.assertIsInstance(caught.exception, DuskError)
        self.assertIsInstance(caught.exception, ValueError)


class WrittenAndRead(PageCase):
    def test_each_kind(self):
        for kind in KINDS:
            self.assert_both_ways(PAGES[kind], (kind, RULES[kind]), (K, S, K), (True, False))

    def test_without_settled_beacons_and_with_all_of_them(self):
        for kind in KINDS:
            book = (kind, RULES[kind])
            short = PAGES[kind].rpartition("\n")[0]
            self.assert_both_ways(short, book, (K, S, K), ())
            self.assert_both_ways(short + "\nsettled 0", book, (K, S, K), (False,))
            self.assert_both_ways(short + "\nsettled 011", book, (K, S, K), (False, True, True))

    def test_no_hands_and_no_rules(self):
        for kind in KINDS:
            self.assert_both_ways(f"kind {kind}\nhands", (kind, ()), (), ())
            self.assert_both_ways(f"kind {kind}\nhands s", (kind, ()), (S,), ())
            self.assert_both_ways(f"kind {kind}\nhands kks\nsettled 110", (kind, ()), (K, K, S), (True, True, False))

    def test_rules_without_beacons_and_no_hands(self):
        self.assert_both_ways("kind eithers\nhands\nrule\nrule", ("eithers", ((), ())), (), ())
        self.assert_both_ways("kind sums\nhands\nrule odd\nrule even", ("sums", (((), True), ((), False))), (), ())
        self.assert_both_ways("kind ifs\nhands\nrule >", ("ifs", (((), None),)), (), ())
        self.assert_both_ways("kind nots\nhands\nrule >", ("nots", (((), None),)), (), ())

    def test_like_rules_stand_as_often_as_they_came(self):
        text = "kind sums\nhands kk\nrule odd 0 1\nrule odd 0 1\nrule even 0\nrule odd 0 1"
        rules = (((0, 1), True), ((0, 1), True), ((0,), False), ((0, 1), True))
        self.assert_both_ways(text, ("sums", rules), (K, K), ())

    def test_great_ones(self):
        beacons = " ".join(map(str, range(60)))
        book = book_made("sums", [(range(60), True)] * 60)
        text = "\n".join(["kind sums", "hands " + "ks" * 30] + [f"rule odd {beacons}"] * 60 + ["settled " + "01" * 30])
        self.assert_both_ways(text, book, (K, S) * 30, (False, True) * 30)
        book = book_made("ifs", [(range(60), 59)] * 60)
        text = "\n".join(["kind ifs", "hands " + "s" * 60] + [f"rule {beacons} > 59"] * 60)
        self.assert_both_ways(text, book, (S,) * 60, ())
        book = book_made("eithers", [[(59, True), (10, False)]] * 60)
        text = "\n".join(["kind eithers", "hands " + "k" * 60] + ["rule -10 +59"] * 60 + ["settled " + "1" * 59])
        self.assert_both_ways(text, book, (K,) * 60, (True,) * 59)

    def test_what_is_written_is_read_back(self):
        for kind, every in (("eithers", 7), ("sums", 5), ("ifs", 13), ("nots", 17)):
            for book, hands, start in situations(kind, 3, 2, every):
                for count in range(4):
                    evening = evenings_of(count)[len(book[1]) % 2 ** count]
                    text = page_written(settled(book, hands, evening))
                    self.assertTrue(is_page(text), text)
                    self.assert_read(text, book, hands, evening)
                    self.assertEqual(page_written(page_read(text)), text)

    def test_beacons_in_any_order_are_read_and_written_in_order(self):
        orders = [
            ("eithers", "rule {0} {1}", ["+0", "-0"], "rule -0 +0"), ("eithers", "rule {0} {1}", ["-2", "+1"], "rule +1 -2"),
            ("sums", "rule odd {0} {1} {2}", ["0", "1", "2"], "rule odd 0 1 2"),
            ("ifs", "rule {0} {1} {2} > 0", ["0", "1", "2"], "rule 0 1 2 > 0"),
            ("nots", "rule {0} {1} {2} >", ["0", "1", "2"], "rule 0 1 2 >"),
        ]
        for kind, row, words, written in orders:
            for order in itertools.permutations(words):
                text = f"kind {kind}\nhands kks\n" + row.format(*order)
                self.assertEqual(page_written(page_read(text)), f"kind {kind}\nhands kks\n{written}")

    def test_the_watch_read_is_a_new_one(self):
        text = PAGES["sums"]
        watch, other = page_read(text), page_read(text)
        watch.settle(True)
        watch.back()
        watch.back()
        self.assertEqual(other.evening(), (True, False))
        self.assertEqual(page_read(text).evening(), (True, False))

    def test_the_watch_written_stays(self):
        watch = page_read(PAGES["ifs"])
        kept = copy.deepcopy((watch.book, watch.hands, watch.evening()))
        self.assertIsInstance(page_written(watch), str)
        self.assertEqual((watch.book, watch.hands, watch.evening()), kept)
        self.assertEqual(watch.settle(True), S)

    def test_a_watch_that_went_back_is_written_as_it_stands(self):
        watch = page_read(PAGES["eithers"])
        watch.back()
        self.assertEqual(page_written(watch), PAGES["eithers"][:-1])


class Refused(PageCase):
    def test_kinds(self):
        for row in ("kind", "kind either", "kind Ifs", "kind IFS", "Kind ifs", "kinds ifs", "ifs", "kind ifs ifs",
                    "kind  ifs", " kind ifs", "kind ifs ", "kind\tifs", "kind ifs\r", "", " ", "kind if", "rule ifs"):
            self.assert_refused(f"{row}\nhands k")

    def test_hands(self):
        for row in ("hand k", "hands kx", "hands K", "hands k s", "hands  ks", "hands ", "hands ks ", " hands ks", "ks",
                    "hands\tks", "hands 01", "hands keeper", "hands k,s", "Hands ks", "hands ks\r", "", "rule", "settled 1",
                    "hands " + "k" * 61, "hands " + "s" * 200):
            self.assert_refused(f"kind eithers\n{row}")
        page_read("kind eithers\nhands " + "k" * 60)

    def test_rows_of_eithers(self):
        for row in ("rule 0", "rule +", "rule +a", "rule ++0", "rule +-0", "rule + 0", "rule +00", "rule +01", "rule 0+",
                    "rule +0 +1 +2", "rule -0 +0 +1", "rule +0 +0", "rule -1 -1", "rule +0 ", "rule  +0", "rule +0  +1",
                    " rule +0", "Rule +0", "rules +0", "rule\t+0", "rule +0\t+1", "rule +3", "rule +59", "rule +60",
                    "rule +999", "rule +1000", "rule -0001", "rule odd 0", "rule 0 > 1", "rule >", "+0 +1", "", " ",
                    "rule *0", "rule +0,+1", "rule +0+1", "rule +-", "rule +0 -", "rule none", "rule +none"):
            self.assert_refused(f"kind eithers\nhands ksk\n{row}")
            self.assert_refused(f"kind eithers\nhands ksk\nrule +0\n{row}\nrule +1")
            self.assert_refused(f"kind eithers\nhands ksk\n{row}\nsettled 1")

    def test_rows_of_sums(self):
        for row in ("rule", "rule 0 1", "rule odds 0", "rule Odd 0", "rule odd even 0", "rule odd odd", "rule 0 odd",
                    "rule odd 0 0", "rule even 1 0 1", "rule odd 00", "rule odd 01", "rule odd +1", "rule odd -1",
                    "rule odd 3", "rule odd 59", "rule odd 60", "rule odd 999", "rule odd 1000", "rule odd 0001", "rule  odd",
                    "rule odd  0", "rule odd 0 ", "rule odd 0\t1", "rule odd a", "rule odd 0 1 2 3", "odd 0", "rule true 0",
                    "rule odd 1.0", "rule odd 1_0", "rule odd 0x1", "rule odd >", "", "rule odd none", "rule  0"):
            self.assert_refused(f"kind sums\nhands ksk\n{row}")
            self.assert_refused(f"kind sums\nhands ksk\nrule odd\n{row}\nrule even 0")
            self.assert_refused(f"kind sums\nhands ksk\n{row}\nsettled 1")

    def test_rows_of_ifs_and_nots(self):
        for kind in ("ifs", "nots"):
            for row in ("rule", "rule 0", "rule 0 1", "rule 0 > 1 2", "rule > 0 0", "rule > > 0", "rule 0 > >", "rule 0 >1",
                        "rule 0> 1", "rule >0", "rule 0 0 > 1", "rule 1 0 1 >", "rule 0 => 1", "rule 0 < 1", "rule +0 > 1",
                        "rule 0 > +1", "rule 0 > -1", "rule -0 > 1", "rule 00 > 1", "rule 0 > 01", "rule 3 > 0",
                        "rule 0 > 3", "rule 60 > 0", "rule 0 > 60", "rule 0 > 1000", "rule 1000 >", "rule 0 > none",
                        "rule  0 > 1", "rule 0  > 1", "rule 0 >  1", "rule 0 > ", " rule >", "rule > ", "rule\t>",
                        "rule a > 0", "rule 0 > a", "> 0", "Rule > 0", "rule odd 0", "rule 0,1 > 2", "", "rules >"):
                self.assert_refused(f"kind {kind}\nhands ksk\n{row}")
                self.assert_refused(f"kind {kind}\nhands ksk\nrule > 0\n{row}\nrule > 1")
                self.assert_refused(f"kind {kind}\nhands ksk\n{row}\nsettled 1")

    def test_settled_beacons(self):
        for row in ("settled", "settled ", "settled 2", "settled 1 0", "settled  1", "settled 1 ", " settled 1", "settled 1a",
                    "settled lit", "settled +1", "settled -1", "settled 1.0", "Settled 1", "set 1", "settled\t1",
                    "settled 0110", "settled 111111", "settled 1\r", "settled True", "1", "settled 10 1"):
            for kind in KINDS:
                self.assert_refused(f"kind {kind}\nhands ksk\n{row}")
        self.assert_refused("kind ifs\nhands\nsettled 1")
        self.assert_refused("kind ifs\nhands\nsettled")

    def test_rows_in_another_order_twice_or_lacking(self):
        for kind in KINDS:
            rows = PAGES[kind].split("\n")
            whole = [rows[0], rows[1], rows[2], rows[-1]]
            page_read("\n".join(whole))
            for order in itertools.permutations(whole):
                if list(order) != whole:
                    self.assert_refused("\n".join(order))
            for place in (0, 1, 3):
                self.assert_refused("\n".join(whole[:place] + [whole[place]] + whole[place:]))
            for place in (0, 1):
                self.assert_refused("\n".join(whole[:place] + whole[place + 1:]))
            for row in (rows[0], rows[1], rows[-1]):
                self.assert_refused("\n".join(whole[:2] + [row] + whole[2:]))
                self.assert_refused("\n".join(whole + [row]))

    def test_ends_and_line_feeds(self):
        for kind in KINDS:
            text = PAGES[kind]
            for spoilt in (text + "\n", "\n" + text, text + " ", " " + text, text + "\t", text + "\r", text + "\r\n",
                           text.replace("\n", "\r\n"), text.replace("\n", "\n\n"), text.replace("\n", " "),
                           text.replace("\n", "\r"), text.replace("\n", "\x0b"), text.replace("\n", "\u2028"),
                           text.replace(" ", "\t"), text.replace(" ", "\u00a0"), text.replace(" ", "  "), text.upper(),
                           "\ufeff" + text, text + "\x00", text + "\nrule"):
                self.assert_refused(spoilt)

    def test_plain_texts(self):
        for text in ("", " ", "\n", "kind ifs", "kind ifs\n", "hands", "\n\n", "rule", "settled 1", "won keeper", "broken",
                     "keeper plan 0", "kind\nifs\nhands"):
            self.assert_refused(text)

    def test_more_than_sixty_rules(self):
        rows = {"eithers": "rule", "sums": "rule odd", "ifs": "rule >", "nots": "rule > 0"}
        for kind in KINDS:
            page_read("\n".join([f"kind {kind}", "hands k"] + [rows[kind]] * 60 + ["settled 1"]))
            for count in (61, 62, 200):
                self.assert_refused("\n".join([f"kind {kind}", "hands k"] + [rows[kind]] * count))
                self.assert_refused("\n".join([f"kind {kind}", "hands k"] + [rows[kind]] * count + ["settled 1"]))

    def test_beacons_without_a_hand(self):
        rows = {"eithers": "rule +{0}", "sums": "rule odd {0}", "ifs": "rule {0} >", "nots": "rule > {0}"}
        for kind, count in itertools.product(KINDS, (0, 1, 10, 59, 60)):
            hands = f"hands {'s' * count}" if count else "hands"
            text = f"kind {kind}\n{hands}\n" + rows[kind]
            self.assert_refused(text.format(count))
            if count:
                page_read(text.format(count - 1))

    def test_figures_of_other_scripts(self):
        for figure in ("\u0661", "\u00b9", "\uff11", "\u2460"):
            self.assert_refused(f"kind eithers\nhands kk\nrule +{figure}")
            self.assert_refused(f"kind sums\nhands kk\nrule odd {figure}")
            self.assert_refused(f"kind ifs\nhands kk\nrule > {figure}")
            self.assert_refused(f"kind ifs\nhands kk\nsettled {figure}")

    def test_a_good_text_is_read_behind_one_that_is_refused(self):
        for kind in KINDS:
            self.assert_refused(PAGES[kind] + "1\n")
            self.assert_refused(PAGES[kind] + "11")
            self.assert_read(PAGES[kind], (kind, RULES[kind]), (K, S, K), (True, False))

    def test_whatever_is_spoilt_in_one_place(self):
        read = 0
        for kind in KINDS:
            for text in near_texts(PAGES[kind]):
                if is_page(text):
                    read += 1
                    again = page_written(page_read(text))
                    self.assertEqual(page_written(page_read(again)), again)
                else:
                    self.assert_refused(text)
        self.assertGreater(read, 100)


if __name__ == "__main__":
    unittest.main()
