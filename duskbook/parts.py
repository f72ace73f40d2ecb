"""What papers are made of: whose the beacons are, and what is rising (points 2 and 15)."""

HANDS = ("keeper", "storm")


def beacons_with(hands, start, hand):
    return [beacon for beacon in range(start, len(hands)) if hands[beacon] == hand]


def is_rising(numbers):
    return list(numbers) == sorted(set(numbers))
