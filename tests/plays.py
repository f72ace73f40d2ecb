"""What more than one test asks of papers that are told: their form, whether they are good, and whether they win."""

import unittest

from candidates import good_again
from duskbook.checking import good
from duskbook.playing import said
from duskbook.settlers import Papered, Rowed, play_out
from duskbook.watches import Watch
from samples import is_so

K, S = "keeper", "storm"
OTHER = {K: S, S: K}


def is_number(thing):
    return isinstance(thing, int) and not isinstance(thing, bool)


def is_a_beacon(thing):
    return is_number(thing) and 0 <= thing < 60


def is_a_truth(thing):
    return isinstance(thing, bool)


def or_none(asked):
    return lambda thing: thing is None or asked(thing)


def rows_of(*asked):
    """Whether a thing is a tuple of tuples whose parts are as asked."""
    return lambda thing: isinstance(thing, tuple) and all(is_row(row, asked) for row in thing)


def several(asked):
    return lambda thing: isinstance(thing, tuple) and all(asked(part) for part in thing)


def is_row(row, asked):
    return isinstance(row, tuple) and len(row) == len(asked) and all(ask(part) for ask, part in zip(asked, row))


ROAD, PLACES, BEACONS = rows_of(is_a_beacon, is_a_truth), several(is_number), several(is_a_beacon)
FORMS = {
    "broken": (), "clash": (ROAD, ROAD), "cross": (ROAD,), "late": (ROAD, ROAD), "odd": (PLACES,),
    "lone": (or_none(is_a_beacon), PLACES, PLACES),
    "plan": (rows_of(is_a_beacon, or_none(is_a_beacon), is_a_truth),),
    "sums": (rows_of(is_a_beacon, BEACONS, is_a_truth),),
    "rows": (BEACONS, rows_of(is_a_beacon, BEACONS)),
}
WORDS = {
    K: {"eithers": ("plan",), "sums": ("sums",), "ifs": ("rows",), "nots": ("rows",)},
    S: {"eithers": ("broken", "clash", "cross", "late"), "sums": ("broken", "odd"), "ifs": ("broken", "lone"),
        "nots": ("broken", "lone")},
}


def is_formed(paper):
    """Whether a thing is a paper of one of the forms of point 15."""
    return isinstance(paper, tuple) and paper[0] in FORMS and is_row(paper[1:], FORMS[paper[0]])


def evenings_by(paper, book, hands, start, hand, ahead):
    """All evenings behind the settled beacons where the hand plays by the paper and the other one as it likes."""
    evenings = [ahead]
    for beacon in range(start, len(hands)):
        if hands[beacon] == hand:
            evenings = [evening + (said(paper, book, hands, start, evening),) for evening in evenings]
        else:
            evenings = [evening + (lit,) for evening in evenings for lit in (False, True)]
    return evenings


def settled(book, hands, evening):
    watch = Watch(book, hands)
    for lit in evening:
        watch.settle(lit)
    return watch


class PaperCase(unittest.TestCase):
    def assert_told(self, tell, book, hands, start, hand):
        """What is told is the hand and a good paper, whether the hands are a list or a tuple; tells the paper."""
        for form in (list, tuple):
            row = form(hands)
            told = tell(book, row, start)
            self.assertEqual(row, form(hands))
            self.assertIsInstance(told, tuple)
            self.assertEqual(len(told), 2)
            self.assertEqual(told[0], hand, (book, hands, start, told))
            self.assert_good(told[1], book, hands, start, hand)
        return told[1]

    def assert_good(self, paper, book, hands, start, hand):
        where = (paper, book, hands, start)
        self.assertTrue(is_formed(paper), where)
        self.assertIn(paper[0], WORDS[hand][book[0]], where)
        self.assertIs(good(paper, book, hands, start, hand), True, where)
        self.assertIs(good(paper, book, hands, start, OTHER[hand]), False, where)
        # Asked once more by other means, which try all evenings of the storm's and so do for few of its beacons alone.
        if list(hands).count(S) < 8:
            self.assertTrue(good_again(paper, book, hands, start, hand), where)
            self.assertFalse(good_again(paper, book, hands, start, OTHER[hand]), where)

    def assert_wins(self, paper, book, hands, start, hand):
        """Who plays by the paper wins, whatever the other hand does and whatever the settled beacons are."""
        for ahead in ((False,) * start, (True,) * start):
            for evening in evenings_by(paper, book, hands, start, hand, ahead):
                for lit in evening:
                    self.assertIn(repr(lit), ("True", "False"))
                kept = all(is_so(book[0], rule, evening) for rule in book[1])
                self.assertEqual(kept, hand == K, (paper, book, hands, start, evening))

    def assert_wins_against(self, rows, paper, book, hands, hand, evening=()):
        """Behind the evening so far, who plays by the paper for what is left wins against each of the rows."""
        start = len(evening)
        for row in rows:
            watch = settled(book, hands, evening)
            settlers = {hand: Papered(hand, paper, watch.left(), hands, start), OTHER[hand]: Rowed(OTHER[hand], row)}
            self.assertEqual(play_out(watch, settlers[K], settlers[S]), hand, (paper, book, hands, evening, row))
