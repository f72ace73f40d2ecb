"""Blends of evenings, and books and evenings with lit and dark exchanged (points 8 and 9)."""

from duskbook.roads import contrary

EXCHANGED_KINDS = {"eithers": "eithers", "sums": "sums", "ifs": "nots", "nots": "ifs"}


def blended_light(kind, lit_count):
    # Of how many evenings it is the kind says: of three for eithers and sums, of two for ifs and nots.
    if kind == "eithers":
        return lit_count >= 2
    if kind == "sums":
        return lit_count % 2 == 1
    if kind == "ifs":
        return lit_count == 2
    return lit_count >= 1


def lit_count_at(evenings, beacon):
    return len([evening for evening in evenings if evening[beacon]])


def blended(kind, evenings):
    lit_counts = [lit_count_at(evenings, beacon) for beacon in range(len(evenings[0]))]
    return tuple([blended_light(kind, lit_count) for lit_count in lit_counts])


def exchanged_rule(kind, rule):
    if kind == "eithers":
        return tuple(sorted([contrary(saying) for saying in rule]))
    if kind == "sums":
        return (rule[0], rule[1] != (len(rule[0]) % 2 == 1))
    return rule


def exchanged(book):
    kind = book[0]
    return (EXCHANGED_KINDS[kind], tuple([exchanged_rule(kind, rule) for rule in book[1]]))


def exchanged_evening(evening):
    return tuple([not lit for lit in evening])
