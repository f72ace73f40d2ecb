"""Which papers are good for the storm (points 15 and 16)."""

from duskbook.adding import added
from duskbook.blends import exchanged
from duskbook.books import is_void, without
from duskbook.deriving import body_is_known, derived, is_derivation, is_place
from duskbook.parts import beacons_with, is_rising
from duskbook.roads import contrary, is_road


def is_broken(book):
    return any([is_void(book[0], rule) for rule in book[1]])


def lead_there_and_back(book, road, other):
    if not is_road(book, road) or not is_road(book, other):
        return False
    return road[-1] == other[0] and other[-1] == road[0]


def clash_good(road, other, book):
    return lead_there_and_back(book, road, other) and road[-1] == contrary(road[0])


def cross_good(road, book, storms):
    if not is_road(book, road) or road[0] == road[-1]:
        return False
    return road[0][0] in storms and road[-1][0] in storms


def late_good(road, other, book, keepers, storms):
    if not lead_there_and_back(book, road, other):
        return False
    return road[0][0] in storms and road[-1][0] in keepers and road[-1][0] < road[0][0]


def odd_good(places, book, storms):
    if not is_rising(places) or not all([is_place(book, place) for place in places]):
        return False
    whole = added(book, places)
    if whole[0]:
        return whole[0][-1] in storms
    return is_void(book[0], whole)


def first_ones(beacon, places, book, keepers):
    if beacon is None:
        return []
    heads = [book[1][place][1] for place in places]
    return [keeper for keeper in keepers if keeper < beacon and keeper in heads]


def is_first_part(beacon, places, book, storms):
    if beacon is None:
        return len(places) == 0
    return beacon in storms and is_derivation(book, storms, places)


def is_last_part(beacon, places, book, facts):
    if len(places) == 0 or not is_place(book, places[-1]) or not is_derivation(book, facts, places[:-1]):
        return False
    rule = book[1][places[-1]]
    known = derived(book, facts, places[:-1])
    return body_is_known(rule, known) and rule[1] in (None, beacon)


def lone_good(paper, book, keepers, storms):
    beacon = paper[1]
    if not is_first_part(beacon, paper[2], book, storms):
        return False
    facts = list(without(storms, beacon)) + first_ones(beacon, paper[2], book, keepers)
    return is_last_part(beacon, paper[3], book, facts)


def either_paper_good(paper, book, keepers, storms):
    if paper[0] == "clash":
        return clash_good(paper[1], paper[2], book)
    if paper[0] == "cross":
        return cross_good(paper[1], book, storms)
    if paper[0] == "late":
        return late_good(paper[1], paper[2], book, keepers, storms)
    return False


def storm_good(paper, book, hands, start):
    if book[0] == "nots":
        return storm_good(paper, exchanged(book), hands, start)
    keepers = beacons_with(hands, start, "keeper")
    storms = beacons_with(hands, start, "storm")
    if paper[0] == "broken":
        return is_broken(book)
    if book[0] == "eithers":
        return either_paper_good(paper, book, keepers, storms)
    if paper[0] == "odd" and book[0] == "sums":
        return odd_good(paper[1], book, storms)
    if paper[0] == "lone" and book[0] == "ifs":
        return lone_good(paper, book, keepers, storms)
    return False
