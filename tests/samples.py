"""Small worlds that more than one test walks: all evenings, sayings and rules of a few beacons."""

import itertools
import random

KINDS = ("eithers", "sums", "ifs", "nots")


def evenings_of(count):
    return list(itertools.product((False, True), repeat=count))


def sayings_of(count):
    return [(beacon, lit) for beacon in range(count) for lit in (False, True)]


def eithers_of(count):
    return [rule for size in range(3) for rule in itertools.combinations(sayings_of(count), size)]


def rules_of(kind, count):
    """All rules of a kind over the first beacons, the rules without beacons among them."""
    if kind == "eithers":
        return eithers_of(count)
    beacons = range(count)
    bodies = [body for size in range(count + 1) for body in itertools.combinations(beacons, size)]
    ends = [False, True] if kind == "sums" else [None] + list(beacons)
    return [(body, end) for body in bodies for end in ends]


def rows_of_hands(count):
    return list(itertools.product(("keeper", "storm"), repeat=count))


def with_hand(hands, start, hand):
    return [beacon for beacon in range(start, len(hands)) if hands[beacon] == hand]


def subsets(things):
    return [some for size in range(len(things) + 1) for some in itertools.combinations(things, size)]


def rules_from(kind, start, count):
    """All rules of a kind of the beacons from the start on, below the count."""
    return [rule for rule in rules_of(kind, count) if all(beacon >= start for beacon in spoken_of(kind, rule))]


def spoken_of(kind, rule):
    if kind == "eithers":
        return [beacon for beacon, lit in rule]
    return [beacon for beacon in rule[0]] + ([rule[1]] if kind in ("ifs", "nots") and rule[1] is not None else [])


def situations(kind, count, most, every=1):
    """Tuples (book, hands, start): books of at most so many rules, all hands and starts; one of every so many."""
    place = 0
    for start in range(count + 1):
        for size in range(most + 1):
            for rules in itertools.combinations(rules_from(kind, start, count), size):
                for hands in rows_of_hands(count):
                    if place % every == 0:
                        yield (kind, rules), hands, start
                    place += 1


def drawn_situations(kind, count, most, number):
    """So many situations of at most so many beacons and rules, the same ones each time."""
    draw = random.Random(f"{kind} {count} {most}")
    for size in range(number):
        beacons = draw.randint(1, count)
        # With few storm's beacons as well as with many, as most books are lost with many.
        storms = draw.choice((0.15, 0.3, 0.5, 0.8))
        hands = tuple("storm" if draw.random() < storms else "keeper" for beacon in range(beacons))
        start = draw.choice((0, 0, draw.randint(0, beacons)))
        # Mostly without the void rule, which settles all by itself.
        rules = [rule for rule in rules_from(kind, start, beacons) if spoken_of(kind, rule) or draw.random() < 0.01]
        if rules:
            yield (kind, tuple(draw.choice(rules) for place in range(draw.randint(0, most)))), hands, start


def is_so(kind, rule, evening):
    """Whether a rule holds, once more and by other means than the program's."""
    if kind == "eithers":
        return bool({(beacon, evening[beacon]) for beacon in range(len(evening))} & set(rule))
    lit = {beacon for beacon in range(len(evening)) if evening[beacon]}
    body = set(rule[0])
    if kind == "sums":
        return len(lit & body) % 2 == (1 if rule[1] else 0)
    if kind == "ifs":
        return not body <= lit or rule[1] in lit
    return bool(body & lit) or (rule[1] is not None and rule[1] not in lit)


def keeper_wins(book, hands, evening):
    """Whether the keeper can win from an evening so far, by trying all."""
    if len(evening) == len(hands):
        return all(is_so(book[0], rule, evening) for rule in book[1])
    ways = [keeper_wins(book, hands, tuple(evening) + (lit,)) for lit in (False, True)]
    return any(ways) if hands[len(evening)] == "keeper" else all(ways)
