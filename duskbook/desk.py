"""The desk: of a page who has won or can win, and whether a written paper is let by (point 26)."""

from duskbook.checking import good
from duskbook.outcomes import outcome
from duskbook.pages import page_read
from duskbook.papertexts import paper_read, paper_written


def told(text):
    watch = page_read(text)
    winner = watch.winner()
    if winner is not None:
        return f"won {winner}"
    answer = outcome(watch.left(), watch.hands, len(watch.evening()))
    return " ".join([answer[0], paper_written(answer[1])])


def let_by(text, hand, written):
    watch = page_read(text)
    paper = paper_read(written)
    return good(paper, watch.left(), watch.hands, len(watch.evening()), hand)
