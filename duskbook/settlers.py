"""Settlers, who say how a hand settles its beacons, and watches played out by two of them (points 20 and 21)."""

from duskbook.playing import said


class Settler:
    def __init__(self, hand):
        self.hand = hand

    def says(self, watch):
        return False

    def sees(self, hand, lit):
        pass


class Rowed(Settler):
    def __init__(self, hand, row):
        Settler.__init__(self, hand)
        self.row = tuple(row)
        self.seen = 0

    def says(self, watch):
        return self.seen < len(self.row) and self.row[self.seen] % 2 == 1

    def sees(self, hand, lit):
        if hand == self.hand:
            self.seen += 1


class Papered(Settler):
    def __init__(self, hand, paper, book, hands, start=0):
        Settler.__init__(self, hand)
        self.paper = paper
        self.book = book
        self.hands = tuple(hands)
        self.start = start

    def says(self, watch):
        return said(self.paper, self.book, self.hands, self.start, watch.evening())


def play_out(watch, keeper, storm):
    while watch.turn() is not None:
        hand = watch.turn()
        mover = keeper if hand == "keeper" else storm
        lit = mover.says(watch)
        watch.settle(lit)
        keeper.sees(hand, lit)
        storm.sees(hand, lit)
    return watch.winner()
