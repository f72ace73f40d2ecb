"""Papers of small books: those among which a good one must be, and a plainer word than the program's on which are good."""

import itertools

from duskbook.blends import exchanged
from duskbook.deriving import derived_in_full
from duskbook.roads import road_to
from samples import is_so, sayings_of, spoken_of, subsets, with_hand

STORMS_WORDS = ("broken", "clash", "cross", "late", "odd", "lone")
KEEPERS_WORDS = ("plan", "sums", "rows")


# Papers of the right form, good or not, so many that a good one is among them where there is one.

def plans(hands, start):
    storms = with_hand(hands, start, "storm")
    choices = [[(keeper, source, lit) for source in [None] + [storm for storm in storms if storm < keeper]
                for lit in (False, True)] for keeper in with_hand(hands, start, "keeper")]
    return [("plan", rows) for rows in itertools.product(*choices)]


def sum_rows(hands, start):
    storms = with_hand(hands, start, "storm")
    choices = [[(keeper, some, odd) for some in subsets([storm for storm in storms if storm < keeper])
                for odd in (False, True)] for keeper in with_hand(hands, start, "keeper")]
    return [("sums", rows) for rows in itertools.product(*choices)]


def lit_rows(hands, start):
    keepers = with_hand(hands, start, "keeper")
    storms = with_hand(hands, start, "storm")
    papers = []
    for first in subsets(keepers):
        choices = [[(storm, tuple(ahead for ahead in first if ahead < storm) + later)
                    for later in subsets([keeper for keeper in keepers if keeper > storm])] for storm in storms]
        papers += [("rows", first, rows) for rows in itertools.product(*choices)]
    return papers


def road_papers(book, hands, start):
    sayings = [saying for saying in sayings_of(len(hands)) if saying[0] >= start]
    papers = []
    for saying, other in itertools.product(sayings, repeat=2):
        there, back = road_to(book, saying, other), road_to(book, other, saying)
        if there and back:
            papers += [("clash", there, back), ("late", there, back)]
        if there:
            papers.append(("cross", there))
    return papers


def odd_papers(book):
    return [("odd", places) for places in subsets(range(len(book[1])))]


def lone_papers(book, hands, start):
    """Of a book of ifs, its derivations as full as can be."""
    keepers, storms = with_hand(hands, start, "keeper"), with_hand(hands, start, "storm")
    papers = []
    for beacon in [None] + storms:
        known, places = ([], ()) if beacon is None else derived_in_full(book, storms)
        ahead = [] if beacon is None else [keeper for keeper in keepers if keeper < beacon and keeper in known]
        facts = [storm for storm in storms if storm != beacon] + ahead
        steps = derived_in_full(book, facts)[1]
        papers += [("lone", beacon, places, steps + (last,)) for last in range(len(book[1]))]
    return papers


def keeper_papers(book, hands, start):
    if book[0] == "eithers":
        return plans(hands, start)
    if book[0] == "sums":
        return sum_rows(hands, start)
    return lit_rows(hands, start)


def storm_papers(book, hands, start):
    if book[0] == "eithers":
        return [("broken",)] + road_papers(book, hands, start)
    if book[0] == "sums":
        return [("broken",)] + odd_papers(book)
    if book[0] == "ifs":
        return [("broken",)] + lone_papers(book, hands, start)
    return [("broken",)] + lone_papers(exchanged(book), hands, start)


# Point 16, once more.

def climbs(numbers):
    return all(ahead < behind for ahead, behind in zip(numbers, numbers[1:]))


def all_evenings(hands, start, settle):
    """The evenings of all that the storm may do, where the keeper's beacons go by settle(beacon, evening)."""
    evenings = [(False,) * start]
    for beacon in range(start, len(hands)):
        if hands[beacon] == "storm":
            evenings = [evening + (lit,) for evening in evenings for lit in (False, True)]
        else:
            evenings = [evening + (settle(beacon, evening),) for evening in evenings]
    return evenings


def all_hold(book, evenings):
    return all(is_so(book[0], rule, evening) for rule in book[1] for evening in evenings)


def plan_is_good(paper, book, hands, start):
    rows = {row[0]: row for row in paper[1]}
    if [row[0] for row in paper[1]] != with_hand(hands, start, "keeper"):
        return False
    storms = with_hand(hands, start, "storm")
    if any(row[1] is not None and not (row[1] in storms and row[1] < row[0]) for row in paper[1]):
        return False

    def settle(beacon, evening):
        source, lit = rows[beacon][1:]
        return lit if source is None else evening[source] is lit

    return all_hold(book, all_evenings(hands, start, settle))


def sums_is_good(paper, book, hands, start):
    rows = {row[0]: row for row in paper[1]}
    if [row[0] for row in paper[1]] != with_hand(hands, start, "keeper"):
        return False
    storms = with_hand(hands, start, "storm")
    for beacon, beacons, odd in paper[1]:
        if not climbs(beacons) or any(other >= beacon or other not in storms for other in beacons):
            return False

    def settle(beacon, evening):
        return (sum(evening[other] for other in rows[beacon][1]) + rows[beacon][2]) % 2 == 1

    return all_hold(book, all_evenings(hands, start, settle))


def rows_is_good(paper, book, hands, start):
    keepers, storms = with_hand(hands, start, "keeper"), with_hand(hands, start, "storm")
    first = set(paper[1])
    if not climbs(paper[1]) or not first <= set(keepers) or [row[0] for row in paper[2]] != storms:
        return False
    lit_ones = [first | set(storms)]
    for beacon, beacons in paper[2]:
        if not climbs(beacons) or not set(beacons) <= set(keepers):
            return False
        if any((other in beacons) != (other in first) for other in range(beacon)):
            return False
        lit_ones.append(set(beacons) | set(storms) - {beacon})
    return all_hold(book, [tuple(beacon in lit for beacon in range(len(hands))) for lit in lit_ones])


def walks(book, road):
    if not road:
        return False
    for saying, other in zip(road, road[1:]):
        if not any(set(rule) == {(saying[0], not saying[1]), other} for rule in book[1]):
            return False
    return True


def roads_are_good(paper, book, hands, start):
    if not all(walks(book, road) for road in paper[1:]):
        return False
    first, last = paper[1][0], paper[1][-1]
    storms = with_hand(hands, start, "storm")
    if paper[0] == "cross":
        return first != last and {first[0], last[0]} <= set(storms)
    if (paper[2][0], paper[2][-1]) != (last, first):
        return False
    if paper[0] == "clash":
        return first[0] == last[0] and first[1] != last[1]
    return first[0] in storms and last[0] in with_hand(hands, start, "keeper") and last[0] < first[0]


def odd_is_good(paper, book, hands, start):
    places = paper[1]
    if not climbs(places) or any(place not in range(len(book[1])) for place in places):
        return False
    rules = [book[1][place] for place in places]
    left = [beacon for beacon in range(len(hands)) if len([1 for rule in rules if beacon in rule[0]]) % 2 == 1]
    odd = len([1 for rule in rules if rule[1]]) % 2 == 1
    return left[-1] in with_hand(hands, start, "storm") if left else odd


def walked(book, facts, places):
    """What a derivation derives, or None where it is none."""
    known = set(facts)
    for place in places:
        if place not in range(len(book[1])) or book[1][place][1] is None or not set(book[1][place][0]) <= known:
            return None
        known.add(book[1][place][1])
    return known


def lone_is_good(paper, book, hands, start):
    beacon, places, others = paper[1:]
    keepers, storms = with_hand(hands, start, "keeper"), with_hand(hands, start, "storm")
    if beacon is None and places or beacon is not None and beacon not in storms:
        return False
    if walked(book, storms, places) is None or not others or others[-1] not in range(len(book[1])):
        return False
    first = {book[1][place][1] for place in places} & set(keepers) & set(range(beacon or 0))
    known = walked(book, set(storms) - {beacon} | first, others[:-1])
    body, head = book[1][others[-1]]
    return known is not None and set(body) <= known and (head is None or head == beacon)


def good_again(paper, book, hands, start, hand):
    word = paper[0]
    if book[0] == "nots":
        return good_again(paper, ("ifs", book[1]), hands, start, hand)
    if hand == "keeper":
        if (word, book[0]) == ("plan", "eithers"):
            return plan_is_good(paper, book, hands, start)
        if (word, book[0]) == ("sums", "sums"):
            return sums_is_good(paper, book, hands, start)
        return (word, book[0]) == ("rows", "ifs") and rows_is_good(paper, book, hands, start)
    if word == "broken":
        return any(not spoken_of(book[0], rule) and not is_so(book[0], rule, ()) for rule in book[1])
    if word in ("clash", "cross", "late"):
        return book[0] == "eithers" and roads_are_good(paper, book, hands, start)
    if word == "odd":
        return book[0] == "sums" and odd_is_good(paper, book, hands, start)
    return (word, book[0]) == ("lone", "ifs") and lone_is_good(paper, book, hands, start)


# Papers of the right form that go wrong in every place.

def short_rows(things, most):
    return [row for size in range(most + 1) for row in itertools.product(things, repeat=size)]


def wild_papers(count):
    """Papers whose beacons and places run from nought or below to somewhat beyond, in any order and twice."""
    beacons = list(range(count + 1))
    sayings = [(beacon, lit) for beacon in beacons for lit in (False, True)]
    few = short_rows(beacons, 2)
    places = short_rows([-1, 0, 1, 2], 2)
    roads = short_rows(sayings, 2)
    yield ("broken",)
    for road in roads + [(sayings[0], other, saying) for other in sayings for saying in sayings]:
        yield ("cross", road)
    for place, (road, other) in enumerate(itertools.product(roads, repeat=2)):
        # Most of them are no roads there and back: those that are so in form, and some of the others.
        if road and other and (road[-1], other[-1]) == (other[0], road[0]) or place % 97 == 0:
            yield ("clash", road, other)
            yield ("late", road, other)
    for row in places + [(0, 1, 2), (2, 1, 0), (0, 2, 1)]:
        yield ("odd", row)
    for beacon in [None] + beacons:
        for first, second in itertools.product(places, repeat=2):
            yield ("lone", beacon, first, second)
    for rows in short_rows([(beacon, source, lit) for beacon in beacons for source in [None] + beacons
                            for lit in (False, True)], 2):
        yield ("plan", rows)
    for place, rows in enumerate(short_rows([(beacon, row, odd) for beacon in beacons for row in few
                                             for odd in (False, True)], 2)):
        if place < 100 or place % 3 == 0:
            yield ("sums", rows)
    for first in few:
        for rows in short_rows([(beacon, row) for beacon in beacons for row in few], 1):
            yield ("rows", first, rows)
