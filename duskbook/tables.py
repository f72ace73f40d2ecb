"""Tables of evenings: a book that has just these, or evenings of it whose blend it lacks (point 23)."""

from duskbook.blends import blended
from duskbook.books import book_made, rule_holds
from duskbook.errors import NoTable

MOST_LENGTH = 4
BLENDED_COUNTS = {"eithers": 3, "sums": 3, "ifs": 2, "nots": 2}


def is_length(thing):
    # True and False are ints to Python, but no whole numbers here.
    return isinstance(thing, int) and not isinstance(thing, bool) and 0 <= thing <= MOST_LENGTH


def check_table(length, evenings):
    if not is_length(length):
        raise NoTable("the length is no whole number from 0 to 4")
    if not all([len(evening) == length for evening in evenings]):
        raise NoTable("an evening has another length")


def all_evenings(length):
    evenings = [()]
    for beacon in range(length):
        evenings = [evening + (False,) for evening in evenings] + [evening + (True,) for evening in evenings]
    return evenings


def groups_of(things, count):
    # Each group once, its things in the order in which they stand.
    if count == 0:
        return [[]]
    groups = []
    for place, thing in enumerate(things):
        groups.extend([[thing] + group for group in groups_of(things[place + 1:], count - 1)])
    return groups


def small_groups(things, most):
    groups = []
    for count in range(most + 1):
        groups.extend(groups_of(things, count))
    return groups


def eithers_over(beacons):
    sayings = [(beacon, False) for beacon in beacons] + [(beacon, True) for beacon in beacons]
    return small_groups(sayings, 2)


def rules_over(kind, length):
    # The shortest ones first, so that a book made of the first that do has few and short rules.
    beacons = list(range(length))
    if kind == "eithers":
        return eithers_over(beacons)
    ends = [False, True] if kind == "sums" else [None] + beacons
    rules = []
    for body in small_groups(beacons, length):
        rules.extend([(body, end) for end in ends])
    return rules


def holds_on_all(kind, rule, evenings):
    return all([rule_holds(kind, rule, evening) for evening in evenings])


def book_of(kind, length, table):
    # Each rule that is taken is broken on an evening more, so that there are no more rules than evenings.
    lacking = [evening for evening in all_evenings(length) if evening not in table]
    rules = []
    for rule in rules_over(kind, length):
        still = [evening for evening in lacking if rule_holds(kind, rule, evening)]
        if len(still) < len(lacking) and holds_on_all(kind, rule, table):
            rules.append(rule)
            lacking = still
    return book_made(kind, rules)


def lacking_blend(kind, table):
    # Where an evening stands twice the blend is one of them, so that unlike ones are enough.
    for group in groups_of(table, BLENDED_COUNTS[kind]):
        if blended(kind, group) not in table:
            return group
    return None


def table_told(kind, length, evenings):
    check_table(length, evenings)
    table = sorted(set([tuple(evening) for evening in evenings]))
    blend = lacking_blend(kind, table)
    if blend is not None:
        return ("blend", blend)
    return ("book", book_of(kind, length, table))
