"""Books of rules: how they are made, where they hold, and what a settled beacon leaves of them (points 4 to 7)."""

from duskbook.errors import NoBook

KINDS = ("eithers", "sums", "ifs", "nots")
BEACON_COUNT = 60
MOST_RULES = 60
MOST_SAYINGS = 2


def is_beacon(thing):
    # True and False are ints to Python, but no whole numbers here.
    return isinstance(thing, int) and not isinstance(thing, bool) and 0 <= thing < BEACON_COUNT


def checked_beacon(thing):
    if not is_beacon(thing):
        raise NoBook("something that is no beacon stands in the place of one")
    return thing


def checked_truth(thing):
    # Asked by "is", as 0 and 1 are equal to the truths but are none.
    if thing is True or thing is False:
        return thing
    raise NoBook("something that is no truth stands in the place of one")


def checked_beacons(beacons):
    # Each is checked ahead of the set and the sorting, which fail on things of other kinds.
    checked = [checked_beacon(beacon) for beacon in beacons]
    if len(set(checked)) < len(checked):
        raise NoBook("a beacon stands twice in a rule")
    return tuple(sorted(checked))


def either_made(sayings):
    if len(sayings) > MOST_SAYINGS:
        raise NoBook("a rule has more than two sayings")
    checked = [(checked_beacon(saying[0]), checked_truth(saying[1])) for saying in sayings]
    if len(set(checked)) < len(checked):
        raise NoBook("a saying stands twice in a rule")
    return tuple(sorted(checked))


def sum_made(rule):
    return (checked_beacons(rule[0]), checked_truth(rule[1]))


def if_made(rule):
    head = rule[1]
    if head is not None:
        head = checked_beacon(head)
    return (checked_beacons(rule[0]), head)


def rule_made(kind, rule):
    if kind == "eithers":
        return either_made(rule)
    if kind == "sums":
        return sum_made(rule)
    return if_made(rule)


def book_made(kind, rules):
    # Only texts are compared with the kinds: what a thing of another kind says of == is its own.
    if not isinstance(kind, str) or kind not in KINDS:
        raise NoBook("the kind is none of the four")
    if len(rules) > MOST_RULES:
        raise NoBook("there are more than 60 rules")
    return (kind, tuple([rule_made(kind, rule) for rule in rules]))


def either_holds(rule, evening):
    return any([evening[saying[0]] == saying[1] for saying in rule])


def sum_holds(rule, evening):
    lit_ones = [beacon for beacon in rule[0] if evening[beacon]]
    return (len(lit_ones) % 2 == 1) == rule[1]


def if_holds(rule, evening, lit):
    # Nots are ifs that ask for dark where ifs ask for lit, so that one function does for both.
    if any([evening[beacon] != lit for beacon in rule[0]]):
        return True
    return rule[1] is not None and evening[rule[1]] == lit


def rule_holds(kind, rule, evening):
    if kind == "eithers":
        return either_holds(rule, evening)
    if kind == "sums":
        return sum_holds(rule, evening)
    return if_holds(rule, evening, kind == "ifs")


def broken_rules(book, evening):
    return [place for place, rule in enumerate(book[1]) if not rule_holds(book[0], rule, evening)]


def holds(book, evening):
    return len(broken_rules(book, evening)) == 0


def beacons_in(kind, rule):
    if kind == "eithers":
        return [saying[0] for saying in rule]
    if kind == "sums" or rule[1] is None:
        return list(rule[0])
    return list(rule[0]) + [rule[1]]


def beacons_of(book):
    found = []
    for rule in book[1]:
        found.extend(beacons_in(book[0], rule))
    return sorted(set(found))


def is_void(kind, rule):
    # Without beacons no place of an evening is asked for, so that the empty one will do.
    return len(beacons_in(kind, rule)) == 0 and not rule_holds(kind, rule, ())


def without(beacons, beacon):
    return tuple([other for other in beacons if other != beacon])


def either_left(rule, beacon, lit):
    if (beacon, lit) in rule:
        return None
    return tuple([saying for saying in rule if saying[0] != beacon])


def sum_left(rule, beacon, lit):
    beacons = without(rule[0], beacon)
    odd = rule[1] != lit
    if len(beacons) == 0 and not odd:
        return None
    return (beacons, odd)


def if_left(rule, beacon, so):
    # "so" is lit for ifs and dark for nots, as in if_holds.
    if so and rule[1] == beacon:
        return None
    if not so and beacon in rule[0]:
        return None
    head = None if rule[1] == beacon else rule[1]
    return (without(rule[0], beacon), head)


def rule_left(kind, rule, beacon, lit):
    # None where the rule is left out. One that does not speak of the beacon stays, even one without any beacon.
    if beacon not in beacons_in(kind, rule):
        return rule
    if kind == "eithers":
        return either_left(rule, beacon, lit)
    if kind == "sums":
        return sum_left(rule, beacon, lit)
    return if_left(rule, beacon, lit == (kind == "ifs"))


def left_behind(book, beacon, lit):
    turned = [rule_left(book[0], rule, beacon, lit) for rule in book[1]]
    return (book[0], tuple([rule for rule in turned if rule is not None]))
