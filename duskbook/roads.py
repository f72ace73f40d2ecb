"""Roads of eithers: what a saying leads to where the rules hold (points 10 and 11)."""


def contrary(saying):
    return (saying[0], not saying[1])


def led_to(book, saying):
    # The sayings that this one leads straight to. A rule that has its contrary alone leads to that contrary.
    against = contrary(saying)
    led = []
    for rule in book[1]:
        if against in rule:
            others = [other for other in rule if other != against]
            led.append(others[0] if others else against)
    return led


def is_road(book, road):
    for place in range(1, len(road)):
        if road[place] not in led_to(book, road[place - 1]):
            return False
    return len(road) > 0


def traced(ahead, last):
    road = []
    saying = last
    while saying is not None:
        road.append(saying)
        saying = ahead[saying]
    return tuple(reversed(road))


def ways_from(book, saying):
    # Every saying that is reached, with the one ahead of it. They are reached in the order of their distance, so that
    # the road traced back from any of them is a shortest one.
    ahead = {saying: None}
    reached = [saying]
    place = 0
    while place < len(reached):
        for led in led_to(book, reached[place]):
            if led not in ahead:
                ahead[led] = reached[place]
                reached.append(led)
        place += 1
    return ahead


def road_to(book, saying, other):
    ahead = ways_from(book, saying)
    if other not in ahead:
        return None
    return traced(ahead, other)
