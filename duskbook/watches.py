"""Watches: the beacons of a row of hands settled one by one over a book (points 7 and 19)."""

from duskbook.books import BEACON_COUNT, beacons_of, holds, left_behind
from duskbook.errors import NoHands, NoLight, NoneSettled, Over
from duskbook.parts import HANDS


def is_hand(thing):
    # Only texts are compared with the hands: what a thing of another kind says of == is its own.
    return isinstance(thing, str) and thing in HANDS


def check_hands(book, hands):
    if len(hands) > BEACON_COUNT:
        raise NoHands("there are more than 60 hands")
    if not all([is_hand(thing) for thing in hands]):
        raise NoHands("something that is no hand stands in the place of one")
    if any([beacon >= len(hands) for beacon in beacons_of(book)]):
        raise NoHands("the book speaks of a beacon that has no hand")


class Watch:
    def __init__(self, book, hands):
        check_hands(book, hands)
        self.book = book
        self.hands = tuple(hands)
        self.truths = []

    def turn(self):
        if len(self.truths) == len(self.hands):
            return None
        return self.hands[len(self.truths)]

    def evening(self):
        return tuple(self.truths)

    def left(self):
        book = self.book
        for beacon, lit in enumerate(self.truths):
            book = left_behind(book, beacon, lit)
        return book

    def winner(self):
        if self.turn() is not None:
            return None
        return "keeper" if holds(self.book, self.truths) else "storm"

    def settle(self, lit):
        if self.turn() is None:
            raise Over("all beacons are settled")
        # Asked by "is", as 0 and 1 are equal to the truths but are none.
        if lit is not True and lit is not False:
            raise NoLight("a beacon is settled by something that is no truth")
        self.truths.append(lit)
        return self.winner()

    def back(self):
        if len(self.truths) == 0:
            raise NoneSettled("no beacon is settled")
        return self.truths.pop()
