"""What a paper says at the next beacon of its hand (point 18)."""

from duskbook.adding import added
from duskbook.parts import beacons_with
from duskbook.storming import first_ones


def row_of(rows, beacon):
    return [row for row in rows if row[0] == beacon][0]


def is_odd_count(beacons, evening):
    return len([beacon for beacon in beacons if evening[beacon]]) % 2 == 1


def plan_said(rows, evening):
    row = row_of(rows, len(evening))
    if row[1] is None:
        return row[2]
    return evening[row[1]] == row[2]


def sums_said(rows, evening):
    row = row_of(rows, len(evening))
    return is_odd_count(row[1], evening) != row[2]


def rows_said(first, rows, evening, so):
    # "so" is lit for ifs and dark for nots: what the paper's beacons are.
    beacon = len(evening)
    asked = [row for row in rows if row[0] < beacon and evening[row[0]] != so]
    if beacon in first and all([beacon in row[1] for row in asked]):
        return so
    return not so


def cross_said(road, evening):
    beacon = len(evening)
    if beacon == road[0][0]:
        return road[0][1]
    if beacon == road[-1][0]:
        return not road[-1][1]
    return False


def late_said(road, evening):
    if len(evening) != road[0][0]:
        return False
    is_so = evening[road[-1][0]] == road[-1][1]
    return road[0][1] != is_so


def odd_said(whole, evening):
    beacons = whole[0]
    if len(beacons) == 0 or len(evening) != beacons[-1]:
        return False
    # Lit, it turns the count of those ahead: just where this is as the sum asks, that breaks it.
    return is_odd_count(beacons[:-1], evening) == whole[1]


def lone_said(beacon, ahead, evening, so):
    # "so" as in rows_said.
    if len(evening) == beacon and all([evening[other] == so for other in ahead]):
        return not so
    return so


def said(paper, book, hands, start, evening):
    word = paper[0]
    so = book[0] == "ifs"
    if word == "plan":
        return plan_said(paper[1], evening)
    if word == "sums":
        return sums_said(paper[1], evening)
    if word == "rows":
        return rows_said(paper[1], paper[2], evening, so)
    if word == "cross":
        return cross_said(paper[1], evening)
    if word == "late":
        return late_said(paper[1], evening)
    if word == "odd":
        return odd_said(added(book, paper[1]), evening)
    if word == "lone":
        ahead = first_ones(paper[1], paper[2], book, beacons_with(hands, start, "keeper"))
        return lone_said(paper[1], ahead, evening, so)
    return False
