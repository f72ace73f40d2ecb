"""Who wins a book of sums, and by which paper (point 22)."""

from duskbook.adding import reduced
from duskbook.keeping import replaced
from duskbook.parts import beacons_with


def last_beacon(pair):
    return pair[1][0][-1]


def storms_places(pairs, void, storms):
    if void is not None:
        return void
    lost = [pair[0] for pair in pairs if last_beacon(pair) in storms]
    return lost[0] if lost else None


def sum_rows(pairs, keepers):
    rules = dict([(last_beacon(pair), pair[1]) for pair in pairs])
    rows = {}
    for keeper in keepers:
        # One that is no rule's last beacon is free: as good as a rule that it be dark.
        rule = rules.get(keeper, ((keeper,), False))
        # The keeper's beacons ahead have their rows already, so that storm's ones alone are left.
        rest = replaced((rule[0][:-1], False), rows)
        rows[keeper] = (keeper, rest[0], rest[1] != rule[1])
    return tuple([rows[keeper] for keeper in keepers])


def sum_outcome(book, hands, start):
    keepers = beacons_with(hands, start, "keeper")
    storms = beacons_with(hands, start, "storm")
    answer = reduced(book)
    places = storms_places(answer[0], answer[1], storms)
    if places is not None:
        return ("storm", ("odd", places))
    return ("keeper", ("sums", sum_rows(answer[0], keepers)))
