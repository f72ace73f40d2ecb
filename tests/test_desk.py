"""The desk (points 2, 3, 16, 17, 22, 26 and the interface's part on desk.py)."""

import itertools
import random
import unittest

from candidates import good_again
from duskbook.books import book_made
from duskbook.desk import let_by, told
from duskbook.errors import DuskError, NoPage, NoPaper
from duskbook.pages import page_read, page_written
from duskbook.papertexts import paper_read
from plays import OTHER, WORDS, PaperCase, is_formed, settled
from samples import KINDS, drawn_situations, evenings_of, is_so, keeper_wins, rows_of_hands, situations
from spoilt import is_paper

K, S = "keeper", "storm"
LIKE = {
    "eithers": "kind eithers\nhands {0}\nrule -0 +1\nrule +0 -1", "sums": "kind sums\nhands {0}\nrule even 0 1",
    "ifs": "kind ifs\nhands {0}\nrule 0 > 1\nrule 1 > 0", "nots": "kind nots\nhands {0}\nrule 0 > 1\nrule 1 > 0",
}
# Papers that are good for the keeper with the hands sk, and for the storm with the hands ks.
KEPT = {"eithers": "plan 1 1 0 yes", "sums": "sums 1 1 1 0 no", "ifs": "rows 1 1 1 0 0", "nots": "rows 1 1 1 0 0"}
LOST = {"eithers": "late 2 +1 +0 2 +0 +1", "sums": "odd 1 0", "ifs": "lone 1 1 1 1 0", "nots": "lone 1 1 1 1 0"}
NO_PAGES = ["", "kind ifs", "kind ifs\nhands x", "kind ifs\nhands k\nrule 1 >", "kind ifs\nhands k\nsettled 11",
            "kind sums\nhands kk\nrule odd 0 0", "kind eithers\nhands\n", "broken"]
NO_PAPERS = ["", "plan", "plan 1", "broken 0", "odd 1 201", "keeper plan 0", "plan 0 ", "rows 0", "kind ifs\nhands"]


class DeskCase(PaperCase):
    def assert_told(self, book, hands, evening, hand):
        """Of the page of a watch that is not at its end: one row, the hand and its paper, which is let by."""
        watch = settled(book, hands, evening)
        page = page_written(watch)
        answer = told(page)
        self.assertIsInstance(answer, str)
        self.assertNotIn("\n", answer)
        first, blank, written = answer.partition(" ")
        self.assertEqual(first, hand, (page, answer))
        self.assertTrue(is_paper(written), answer)
        paper = paper_read(written)
        self.assertTrue(is_formed(paper))
        self.assertIn(paper[0], WORDS[hand][book[0]])
        self.assertIs(let_by(page, hand, written), True, (page, answer))
        self.assertIs(let_by(page, OTHER[hand], written), False, (page, answer))
        if list(hands).count(S) < 8:
            self.assertTrue(good_again(paper, watch.left(), hands, len(evening), hand), (page, answer))
        return paper


class Told(DeskCase):
    def test_plain_pages(self):
        for kind in KINDS:
            self.assertEqual(told(LIKE[kind].format("sk")), f"keeper {KEPT[kind]}")
            for hands in rows_of_hands(2):
                page = LIKE[kind].format("".join(hand[0] for hand in hands))
                watch = page_read(page)
                self.assert_told(watch.book, hands, (), S if hands[1] == S else K)

    def test_all_settled(self):
        for kind in KINDS:
            for hands in ("kk", "ks", "sk", "ss"):
                page = LIKE[kind].format(hands)
                for signs in ("00", "11"):
                    self.assertEqual(told(f"{page}\nsettled {signs}"), "won keeper")
                for signs in ("01", "10"):
                    self.assertEqual(told(f"{page}\nsettled {signs}"), "won storm")

    def test_no_hands(self):
        for kind in KINDS:
            self.assertEqual(told(f"kind {kind}\nhands"), "won keeper")
        self.assertEqual(told("kind eithers\nhands\nrule"), "won storm")
        self.assertEqual(told("kind sums\nhands\nrule odd"), "won storm")
        self.assertEqual(told("kind sums\nhands\nrule even"), "won keeper")
        self.assertEqual(told("kind ifs\nhands\nrule >"), "won storm")
        self.assertEqual(told("kind nots\nhands\nrule >"), "won storm")

    def test_no_rules(self):
        self.assertEqual(told("kind eithers\nhands s"), "keeper plan 0")
        self.assertEqual(told("kind sums\nhands s"), "keeper sums 0")
        self.assertEqual(told("kind ifs\nhands k"), "keeper rows 0 0")
        self.assertEqual(told("kind nots\nhands ks"), "keeper rows 0 1 1 0")

    def test_some_settled(self):
        for kind in KINDS:
            for hands, lit in itertools.product(("sk", "kk"), "01"):
                self.assertEqual(told(LIKE[kind].format(hands) + f"\nsettled {lit}").partition(" ")[0], K)
            for hands, lit in itertools.product(("ss", "ks"), "01"):
                self.assertEqual(told(LIKE[kind].format(hands) + f"\nsettled {lit}").partition(" ")[0], S)

    def test_it_goes_by_what_is_left_and_not_by_the_page_as_it_was(self):
        # With 0 dark nothing is asked of 1; with 0 lit the storm can break the rule.
        page = "kind ifs\nhands ks\nrule 0 > 1"
        self.assertEqual(told(page).partition(" ")[0], K)
        self.assertEqual(told(page + "\nsettled 0").partition(" ")[0], K)
        self.assertEqual(told(page + "\nsettled 1").partition(" ")[0], S)

    def test_every_watch_of_small_books(self):
        for kind, every in (("eithers", 17), ("sums", 11), ("ifs", 41), ("nots", 37)):
            for book, hands, start in situations(kind, 3, 2, every):
                for count in range(4):
                    for evening in evenings_of(count):
                        if count == 3:
                            kept = all(is_so(kind, rule, evening) for rule in book[1])
                            page = page_written(settled(book, hands, evening))
                            self.assertEqual(told(page), "won keeper" if kept else "won storm")
                        else:
                            self.assert_told(book, hands, evening, K if keeper_wins(book, hands, evening) else S)

    def test_drawn_watches(self):
        for kind in KINDS:
            draw = random.Random(f"watches of {kind}")
            for book, hands, start in drawn_situations(kind, 6, 7, 200):
                evening = tuple(draw.choice((False, True)) for beacon in range(draw.randrange(len(hands))))
                self.assert_told(book, hands, evening, K if keeper_wins(book, hands, evening) else S)

    def test_great_pages(self):
        rows = {"eithers": "rule -{0} +{1}", "sums": "rule odd {0} {1}", "ifs": "rule {0} > {1}", "nots": "rule {0} > {1}"}
        # Half of the beacons settled so that all rules of them hold.
        so_far = {"eithers": (True,) * 30, "sums": (True, False) * 15, "ifs": (True,) * 30, "nots": (False,) * 30}
        for kind in KINDS:
            chain = "\n".join(rows[kind].format(beacon, beacon + 1) for beacon in range(59))
            for hands, hand in (("s" + "k" * 59, K), ("k" * 60, K), ("s" * 60, S), ("s" + "k" * 58 + "s", S)):
                watch = page_read(f"kind {kind}\nhands {hands}\n{chain}")
                self.assert_told(watch.book, watch.hands, (), hand)
                self.assert_told(watch.book, watch.hands, so_far[kind], hand)

    def test_spoilt_pages(self):
        for page in NO_PAGES:
            with self.assertRaises(NoPage) as caught:
                told(page)
            self.assertIs(type(caught.exception), NoPage)
            self.assertIsInstance(caught.exception, DuskError)
            self.assertIsInstance(caught.exception, ValueError)
            self.assertEqual(told("kind ifs\nhands"), "won keeper")


class LetBy(DeskCase):
    def test_good_papers(self):
        for kind in KINDS:
            for hands, written, hand in (("sk", KEPT[kind], K), ("ks", LOST[kind], S)):
                page = LIKE[kind].format(hands)
                self.assertIs(let_by(page, hand, written), True)
                self.assertIs(let_by(page, OTHER[hand], written), False)
                swapped = LIKE[kind].format(hands[::-1])
                self.assertIs(let_by(swapped, hand, written), False)
                self.assertIs(let_by(swapped, OTHER[hand], written), False)

    def test_papers_of_another_kind_of_book(self):
        for kind, other in itertools.permutations(KINDS, 2):
            if {kind, other} != {"ifs", "nots"}:
                for hands, hand in itertools.product(("sk", "ks"), (K, S)):
                    for written in (KEPT[other], LOST[other]):
                        self.assertIs(let_by(LIKE[kind].format(hands), hand, written), False)

    def test_papers_that_are_not_good(self):
        for kind in KINDS:
            for written in ("broken", "plan 0", "sums 0", "rows 0 0", "odd 0", "cross 0", "clash 0 0", "late 0 0",
                            "lone none 0 0", "plan 1 1 none yes", "plan 1 59 0 yes", "sums 1 1 0 no", "rows 0 1 0 0",
                            "rows 1 59 1 0 0", "odd 1 200", "lone 59 1 200 1 200", "lone 0 0 1 200", "cross 1 +59",
                            "plan 2 1 0 yes 1 0 yes", "odd 2 0 0", "lone none 0 1 0"):
                for hands, hand in itertools.product(("sk", "ks"), (K, S)):
                    page = LIKE[kind].format(hands)
                    left = page_read(page)
                    so = good_again(paper_read(written), left.book, left.hands, 0, hand)
                    self.assertIs(let_by(page, hand, written), so, (page, hand, written))

    def test_it_goes_by_what_is_left(self):
        page = "kind sums\nhands ksk\nrule odd 0 1 2\nrule even 1"
        self.assertIs(let_by(page, S, "odd 1 1"), True)
        self.assertIs(let_by(page + "\nsettled 1", S, "odd 1 1"), True)
        # Behind 1, dark, the second rule is left out and the keeper has won.
        self.assertIs(let_by(page + "\nsettled 10", S, "odd 1 1"), False)
        self.assertIs(let_by(page + "\nsettled 10", K, "sums 1 2 0 no"), True)
        self.assertIs(let_by(page + "\nsettled 00", K, "sums 1 2 0 no"), False)
        self.assertIs(let_by(page + "\nsettled 00", K, "sums 1 2 0 yes"), True)
        self.assertIs(let_by(page + "\nsettled 11", S, "broken"), True)
        self.assertIs(let_by(page + "\nsettled 11", S, "odd 1 1"), True)

    def test_all_settled(self):
        papers = {"eithers": "plan 0", "sums": "sums 0", "ifs": "rows 0 0", "nots": "rows 0 0"}
        for kind in KINDS:
            page = LIKE[kind].format("sk")
            self.assertIs(let_by(page + "\nsettled 11", K, papers[kind]), True)
            self.assertIs(let_by(page + "\nsettled 11", S, "broken"), False)
            self.assertIs(let_by(page + "\nsettled 10", K, papers[kind]), False)
            self.assertIs(let_by(page + "\nsettled 10", S, "broken"), True)

    def test_a_spoilt_page_beside_any_paper(self):
        for page, written, hand in itertools.product(NO_PAGES, NO_PAPERS + ["broken", "plan 0", "rows 0 0"], (K, S)):
            with self.assertRaises(NoPage) as caught:
                let_by(page, hand, written)
            self.assertIs(type(caught.exception), NoPage)

    def test_a_spoilt_paper_beside_a_good_page(self):
        for kind, written, hand in itertools.product(KINDS, NO_PAPERS, (K, S)):
            for end in ("", "\nsettled 1", "\nsettled 10"):
                with self.assertRaises(NoPaper) as caught:
                    let_by(LIKE[kind].format("sk") + end, hand, written)
                self.assertIs(type(caught.exception), NoPaper)
                self.assertIsInstance(caught.exception, DuskError)
                self.assertIsInstance(caught.exception, ValueError)
            self.assertIs(let_by(LIKE[kind].format("sk"), K, KEPT[kind]), True)


class FromTextToAnswer(DeskCase):
    """Point 3: the paper told of a page wins at the page's watch."""

    def assert_wins_at(self, page, rows):
        watch = page_read(page)
        hand, blank, written = told(page).partition(" ")
        self.assert_wins_against(rows, paper_read(written), watch.book, watch.hands, hand, watch.evening())

    def test_small_watches_against_all_rows(self):
        for kind, every in (("eithers", 41), ("sums", 29), ("ifs", 97), ("nots", 101)):
            for book, hands, start in situations(kind, 3, 2, every):
                for count in range(3):
                    for evening in evenings_of(count):
                        page = page_written(settled(book, hands, evening))
                        self.assert_wins_at(page, list(itertools.product((0, 1), repeat=3 - count)))

    def test_drawn_watches_against_many_rows(self):
        for kind in KINDS:
            draw = random.Random(f"rows against {kind}")
            for book, hands, start in drawn_situations(kind, 8, 8, 100):
                evening = tuple(draw.choice((False, True)) for beacon in range(draw.randrange(len(hands))))
                rows = [[draw.randint(-3, 3) for beacon in hands] for row in range(6)]
                self.assert_wins_at(page_written(settled(book, hands, evening)), rows)

    def test_great_watches(self):
        for kind in KINDS:
            draw = random.Random(f"great {kind}")
            for storms in (1, 3, 20):
                hands = [S] * storms + [K] * (60 - storms)
                for place in range(3):
                    draw.shuffle(hands)
                    book = book_made(kind, [drawn_rule(draw, kind) for rule in range(30)])
                    rows = [[draw.randint(0, 1) for beacon in hands] for row in range(3)]
                    self.assert_wins_at(page_written(settled(book, hands, ())), rows)


def drawn_rule(draw, kind):
    beacons = draw.sample(range(60), draw.randint(2, 4))
    if kind == "eithers":
        return [(beacon, draw.choice((False, True))) for beacon in beacons[:2]]
    if kind == "sums":
        return (beacons, draw.choice((False, True)))
    return (beacons[1:], draw.choice((None, beacons[0])))


if __name__ == "__main__":
    unittest.main()
