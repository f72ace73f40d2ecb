"""Derivations in books of ifs: what follows from facts (point 14)."""


def is_place(book, place):
    # Asked ahead of every index, as Python takes one below nought from the end.
    return 0 <= place < len(book[1])


def body_is_known(rule, known):
    return all([beacon in known for beacon in rule[0]])


def is_step(book, known, place):
    if not is_place(book, place):
        return False
    rule = book[1][place]
    return rule[1] is not None and body_is_known(rule, known)


def is_derivation(book, facts, places):
    known = list(facts)
    for place in places:
        if not is_step(book, known, place):
            return False
        known.append(book[1][place][1])
    return True


def derived(book, facts, places):
    heads = [book[1][place][1] for place in places]
    return sorted(set(list(facts) + heads))


def step_to_more(book, known):
    for place, rule in enumerate(book[1]):
        if rule[1] not in known and is_step(book, known, place):
            return place
    return None


def derived_in_full(book, facts):
    known = dict([(fact, True) for fact in facts])
    places = []
    place = step_to_more(book, known)
    while place is not None:
        places.append(place)
        known[book[1][place][1]] = True
        place = step_to_more(book, known)
    return (sorted(known), tuple(places))
