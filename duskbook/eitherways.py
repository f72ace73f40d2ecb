"""Who wins a book of eithers, and by which paper (point 22)."""

from duskbook.parts import beacons_with
from duskbook.roads import contrary, traced, ways_from
from duskbook.storming import is_broken


def sayings_of(beacons):
    sayings = []
    for beacon in beacons:
        sayings.extend([(beacon, False), (beacon, True)])
    return sayings


def lead_to_one_another(ways, saying, other):
    return other in ways[saying] and saying in ways[other]


def clash_found(ways):
    for saying in ways:
        other = contrary(saying)
        if lead_to_one_another(ways, saying, other):
            return ("clash", traced(ways[saying], other), traced(ways[other], saying))
    return None


def cross_found(ways, storms):
    for saying in sayings_of(storms):
        for other in sayings_of(storms):
            if other != saying and other in ways[saying]:
                return ("cross", traced(ways[saying], other))
    return None


def late_found(ways, keepers, storms):
    for saying in sayings_of(storms):
        for other in sayings_of(keepers):
            if other[0] < saying[0] and lead_to_one_another(ways, saying, other):
                return ("late", traced(ways[saying], other), traced(ways[other], saying))
    return None


def storms_paper(book, ways, keepers, storms):
    if is_broken(book):
        return ("broken",)
    found = [clash_found(ways), cross_found(ways, storms), late_found(ways, keepers, storms)]
    papers = [paper for paper in found if paper is not None]
    return papers[0] if papers else None


def free_saying(keeper, ways):
    # Without a clash one of the two has no road to its contrary.
    dark = (keeper, False)
    return contrary(dark) if contrary(dark) in ways[dark] else dark


def truths_made(ways, keepers, storms):
    # A beacon that goes by a storm's one gets a truth here too, which its row does not ask for.
    truths = {}
    for saying in sayings_of(storms):
        truths.update(dict(list(ways[saying])))
    for keeper in keepers:
        if keeper not in truths:
            truths.update(dict(list(ways[free_saying(keeper, ways)])))
    return truths


def plan_row(keeper, ways, storms, truths):
    for saying in sayings_of(storms):
        if lead_to_one_another(ways, saying, (keeper, True)):
            return (keeper, saying[0], saying[1])
    return (keeper, None, truths[keeper])


def either_outcome(book, hands, start):
    keepers = beacons_with(hands, start, "keeper")
    storms = beacons_with(hands, start, "storm")
    ways = dict([(saying, ways_from(book, saying)) for saying in sayings_of(keepers + storms)])
    paper = storms_paper(book, ways, keepers, storms)
    if paper is not None:
        return ("storm", paper)
    truths = truths_made(ways, keepers, storms)
    return ("keeper", ("plan", tuple([plan_row(keeper, ways, storms, truths) for keeper in keepers])))
