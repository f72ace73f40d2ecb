"""Which papers are good for the keeper (points 15 and 16)."""

from duskbook.adding import both_added
from duskbook.blends import exchanged
from duskbook.books import holds, without
from duskbook.parts import beacons_with, is_rising
from duskbook.roads import contrary


def rows_by_beacon(rows):
    return dict([(row[0], row) for row in rows])


def is_plan_row(row, storms):
    return row[1] is None or (row[1] in storms and row[1] < row[0])


def come_to(saying, plan):
    # A saying that comes to True or False is told as one of None, so that all ends have one form.
    if saying[0] not in plan:
        return saying
    row = plan[saying[0]]
    return (row[1], saying[1] == row[2])


def either_is_kept(rule, plan):
    ends = [come_to(saying, plan) for saying in rule]
    return any([end == (None, True) or contrary(end) in ends for end in ends])


def plan_good(rows, book, keepers, storms):
    if [row[0] for row in rows] != keepers or not all([is_plan_row(row, storms) for row in rows]):
        return False
    plan = rows_by_beacon(rows)
    return all([either_is_kept(rule, plan) for rule in book[1]])


def is_sum_row(row, storms):
    return is_rising(row[1]) and all([beacon in storms and beacon < row[0] for beacon in row[1]])


def replaced(rule, sums):
    whole = ((), False)
    for beacon in rule[0]:
        # A beacon without a row, one of the storm's, stands for itself.
        row = sums.get(beacon, (beacon, (beacon,), False))
        whole = both_added(whole, (row[1], row[2]))
    return whole


def sums_good(rows, book, keepers, storms):
    if [row[0] for row in rows] != keepers or not all([is_sum_row(row, storms) for row in rows]):
        return False
    sums = rows_by_beacon(rows)
    return all([replaced(rule, sums) == ((), rule[1]) for rule in book[1]])


def are_some_of(beacons, others):
    return is_rising(beacons) and all([beacon in others for beacon in beacons])


def ahead_of(beacons, beacon):
    return [other for other in beacons if other < beacon]


def is_row(row, first, keepers):
    return are_some_of(row[1], keepers) and ahead_of(row[1], row[0]) == ahead_of(first, row[0])


def holds_where_lit(book, lit, count):
    return holds(book, [beacon in lit for beacon in range(count)])


def rows_good(first, rows, book, keepers, storms, count):
    if not are_some_of(first, keepers) or [row[0] for row in rows] != storms:
        return False
    if not all([is_row(row, first, keepers) for row in rows]):
        return False
    lit_ones = [storms + list(first)] + [list(without(storms, row[0])) + list(row[1]) for row in rows]
    return all([holds_where_lit(book, lit, count) for lit in lit_ones])


def keeper_good(paper, book, hands, start):
    if book[0] == "nots":
        return keeper_good(paper, exchanged(book), hands, start)
    keepers = beacons_with(hands, start, "keeper")
    storms = beacons_with(hands, start, "storm")
    if paper[0] == "plan" and book[0] == "eithers":
        return plan_good(paper[1], book, keepers, storms)
    if paper[0] == "sums" and book[0] == "sums":
        return sums_good(paper[1], book, keepers, storms)
    if paper[0] == "rows" and book[0] == "ifs":
        return rows_good(paper[1], paper[2], book, keepers, storms, len(hands))
    return False
