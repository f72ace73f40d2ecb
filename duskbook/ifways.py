"""Who wins a book of ifs, and by which paper (point 22)."""

from duskbook.books import without
from duskbook.deriving import body_is_known, derived_in_full
from duskbook.keeping import ahead_of
from duskbook.parts import beacons_with


def places_to_none(book, full):
    for place, rule in enumerate(book[1]):
        if rule[1] is None and body_is_known(rule, full[0]):
            return full[1] + (place,)
    return None


def places_to_beacon(book, full, beacon):
    # Cut off behind the beacon: it is dark, so that nothing may be derived from it.
    heads = [book[1][place][1] for place in full[1]]
    if beacon not in heads:
        return None
    return full[1][:heads.index(beacon) + 1]


def some_of(beacons, known):
    return tuple([beacon for beacon in beacons if beacon in known])


def facts_beside(beacon, storms, first):
    # Ahead of the dark beacon the keeper has settled its own as with all of the storm's lit.
    return list(without(storms, beacon)) + ahead_of(first, beacon)


def if_outcome(book, hands, start):
    keepers = beacons_with(hands, start, "keeper")
    storms = beacons_with(hands, start, "storm")
    whole = derived_in_full(book, storms)
    places = places_to_none(book, whole)
    if places is not None:
        return ("storm", ("lone", None, (), places))
    first = some_of(keepers, whole[0])
    rows = []
    for beacon in storms:
        full = derived_in_full(book, facts_beside(beacon, storms, first))
        # Rules without a head need no look: what is derived here is so with all lit, where none of them is broken.
        places = places_to_beacon(book, full, beacon)
        if places is not None:
            return ("storm", ("lone", beacon, whole[1], places))
        rows.append((beacon, some_of(keepers, full[0])))
    return ("keeper", ("rows", first, tuple(rows)))
