"""Whether a paper is good for a hand (points 15 to 17)."""

from duskbook.keeping import keeper_good
from duskbook.storming import storm_good


def good(paper, book, hands, start, hand):
    if hand == "keeper":
        return keeper_good(paper, book, hands, start)
    return storm_good(paper, book, hands, start)
