"""Small worlds that more than one test walks: all evenings, sayings and rules of a few beacons."""

import itertools

KINDS = ("eithers", "sums", "ifs", "nots")


def evenings_of(count):
    return list(itertools.product((False, True), repeat=count))


def sayings_of(count):
    return [(beacon, lit) for beacon in range(count) for lit in (False, True)]


def eithers_of(count):
    return [rule for size in range(3) for rule in itertools.combinations(sayings_of(count), size)]


def rules_of(kind, count):
    """All rules of a kind over the first beacons, the rules without beacons among them."""
    if kind == "eithers":
        return eithers_of(count)
    beacons = range(count)
    bodies = [body for size in range(count + 1) for body in itertools.combinations(beacons, size)]
    ends = [False, True] if kind == "sums" else [None] + list(beacons)
    return [(body, end) for body in bodies for end in ends]
