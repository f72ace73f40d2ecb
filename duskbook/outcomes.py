"""Who wins a book of any kind, and by which paper (point 22)."""

from duskbook.blends import exchanged
from duskbook.eitherways import either_outcome
from duskbook.ifways import if_outcome
from duskbook.sumways import sum_outcome


def outcome(book, hands, start=0):
    if book[0] == "eithers":
        return either_outcome(book, hands, start)
    if book[0] == "sums":
        return sum_outcome(book, hands, start)
    if book[0] == "nots":
        # Papers of nots are those of the exchanged book.
        return if_outcome(exchanged(book), hands, start)
    return if_outcome(book, hands, start)
