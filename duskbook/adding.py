"""Sums of sums: rules added by their places, and books reduced by adding (points 12 and 13)."""


def both_added(rule, other):
    # A beacon of both stands there an even number of times.
    return (tuple(sorted(set(rule[0]) ^ set(other[0]))), rule[1] != other[1])


def added(book, places):
    whole = ((), False)
    for place in places:
        whole = both_added(whole, book[1][place])
    return whole


def pairs_added(pair, other):
    # Pairs are (places, rule). A place of both adds nothing, so that it may be left out.
    return (tuple(sorted(set(pair[0]) ^ set(other[0]))), both_added(pair[1], other[1]))


def cleared(pair, by_last):
    # Each step takes away the last beacon and brings lesser ones alone, so that this comes to an end.
    left = pair
    while left[1][0] and left[1][0][-1] in by_last:
        left = pairs_added(left, by_last[left[1][0][-1]])
    return left


def reduced(book):
    by_last = {}
    void = None
    for place, rule in enumerate(book[1]):
        pair = cleared(((place,), rule), by_last)
        beacons = pair[1][0]
        if beacons:
            by_last[beacons[-1]] = pair
        elif pair[1][1] and void is None:
            void = pair[0]
    return ([by_last[last] for last in sorted(by_last)], void)
