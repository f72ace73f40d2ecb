"""Texts spoilt in one place, and what of them is still a page or a paper, by other means than the program's."""

import re

NUMBER = r"(?:0|[1-9][0-9]{0,2})"
BEACON = r"(?:[0-9]|[1-5][0-9])"
ROWS_OF_RULES = {
    "eithers": rf"rule(?: [+-]{BEACON}){{0,2}}",
    "sums": rf"rule (?:odd|even)(?: {BEACON})*",
    "ifs": rf"rule(?: {BEACON})* >(?: {BEACON})?",
    "nots": rf"rule(?: {BEACON})* >(?: {BEACON})?",
}
SIGNS = ["", " ", "\n", "\t", "\r", "\x0b", "\u00a0", "\u2028", "0", "1", "9", "+", "-", ">", "k", "s", "x", "K", ".",
         "_", "\u0663", "\u00b2"]


def is_page(text):
    rows = text.split("\n")
    kind = re.fullmatch(r"kind (eithers|sums|ifs|nots)", rows[0])
    hands = re.fullmatch(r"hands(?: ([ks]{1,60}))?", rows[1]) if len(rows) > 1 else None
    if not kind or not hands:
        return False
    count = len(hands.group(1) or "")
    rules = rows[2:]
    settled = re.fullmatch(r"settled ([01]+)", rules[-1]) if rules else None
    if settled:
        rules = rules[:-1]
        if len(settled.group(1)) > count:
            return False
    if len(rules) > 60 or not all(re.fullmatch(ROWS_OF_RULES[kind.group(1)], row) for row in rules):
        return False
    for row in rules:
        if any(int(word) >= count for word in re.findall("[0-9]+", row)):
            return False
        once = row.partition(" >")[0].split(" ")[1:]
        if len(set(once)) < len(once):
            return False
    return True


def near_texts(text):
    """The text with one sign left out, put in or in another's place; one word or row left out, twice, or moved."""
    for place in range(len(text) + 1):
        for sign in SIGNS:
            yield text[:place] + sign + text[place:]
            yield text[:place] + sign + text[place + 1:]
    for mark in (" ", "\n"):
        words = text.split(mark)
        for place in range(len(words)):
            rest = words[:place] + words[place + 1:]
            yield mark.join(rest)
            for other in range(len(words)):
                yield mark.join(rest[:other] + [words[place]] + rest[other:])
                yield mark.join(words[:other] + [words[place]] + words[other:])
                yield mark.join(words[:other] + [words[place]] + words[other + 1:])


def behind_count(words, take):
    """What is left of the words behind a count and so many parts, each taken away by take(words); None if it fails."""
    if not words or not re.fullmatch(NUMBER, words[0]) or int(words[0]) > 200:
        return None
    rest = words[1:]
    for part in range(int(words[0])):
        rest = take(rest)
        if rest is None:
            return None
    return rest


def one(form):
    return lambda words: words[1:] if words and re.fullmatch(form, words[0]) else None


def place(words):
    return one(NUMBER)(words) if words and len(words[0]) < 4 and words[0].isdecimal() and int(words[0]) <= 200 else None


def many(take):
    return lambda words: behind_count(words, take)


def in_turn(*takes):
    def take_all(words):
        for take in takes:
            words = None if words is None else take(words)
        return words
    return take_all


ROAD, PLACES, BEACONS = many(one(rf"[+-]{BEACON}")), many(place), many(one(BEACON))
SOURCE, TRUTH = one(rf"none|{BEACON}"), one("yes|no")
PAPERS = {
    "broken": in_turn(), "clash": in_turn(ROAD, ROAD), "cross": ROAD, "late": in_turn(ROAD, ROAD), "odd": PLACES,
    "lone": in_turn(SOURCE, PLACES, PLACES), "plan": many(in_turn(one(BEACON), SOURCE, TRUTH)),
    "sums": many(in_turn(one(BEACON), BEACONS, TRUTH)), "rows": in_turn(BEACONS, many(in_turn(one(BEACON), BEACONS))),
}


def is_paper(text):
    words = text.split(" ")
    return words[0] in PAPERS and PAPERS[words[0]](words[1:]) == []
