"""Roads of eithers (points 2, 10, 11 and the interface's part on roads.py)."""

import itertools
import unittest

from duskbook.books import book_made, holds
from duskbook.roads import contrary, is_road, road_to
from samples import eithers_of, evenings_of, sayings_of


def leads_straight(book, saying, other):
    """Point 10, once more and by other means than the program's."""
    against = (saying[0], not saying[1])
    return any(sorted(rule) == sorted({against, other}) for rule in book[1])


def distances(book, sayings):
    """The count of steps from each saying to each that it leads to."""
    told = {(saying, saying): 0 for saying in sayings}
    for steps in range(1, len(sayings)):
        for saying, middle, other in itertools.product(sayings, repeat=3):
            if told.get((saying, middle)) == steps - 1 and leads_straight(book, middle, other):
                told.setdefault((saying, other), steps)
    return told


def small_books():
    """Books of up to three rules of two beacons, and some of three beacons."""
    for size in range(4):
        for rules in itertools.combinations(eithers_of(2), size):
            yield ("eithers", rules)
    for place, rules in enumerate(itertools.combinations(eithers_of(3), 4)):
        if place % 41 == 0:
            yield ("eithers", rules)


class Contraries(unittest.TestCase):
    def test_the_same_beacon_with_the_other_truth(self):
        for saying, other in (((0, True), (0, False)), ((59, False), (59, True))):
            self.assertEqual(repr(contrary(saying)), repr(other))
            self.assertEqual(repr(contrary(contrary(saying))), repr(saying))


class IsRoad(unittest.TestCase):
    def assert_road(self, rules, road, so):
        book = book_made("eithers", rules)
        with self.subTest(rules=rules, road=road):
            self.assertIs(is_road(book, tuple(road)), so)
            self.assertIs(is_road(book, list(road)), so)

    def test_one_saying_alone_is_a_road_of_every_book(self):
        for rules in ([], [()], [((0, True),)], [((0, True), (1, True))]):
            for saying in ((0, True), (0, False), (59, True)):
                self.assert_road(rules, [saying], True)

    def test_no_saying_at_all_is_no_road(self):
        self.assert_road([], [], False)
        self.assert_road([((0, True),)], [], False)

    def test_a_rule_of_no_saying_leads_nowhere(self):
        for saying, other in itertools.product(sayings_of(2), repeat=2):
            self.assert_road([()], [saying, other], False)

    def test_a_rule_of_one_saying_leads_from_its_contrary_to_it(self):
        for saying, other in itertools.product(sayings_of(2), repeat=2):
            self.assert_road([((1, True),)], [saying, other], saying == (1, False) and other == (1, True))
            self.assert_road([((1, False),)], [saying, other], saying == (1, True) and other == (1, False))

    def test_a_rule_of_two_sayings_leads_from_each_ones_contrary_to_the_other_one(self):
        steps = [((0, False), (1, False)), ((1, True), (0, True))]
        for saying, other in itertools.product(sayings_of(3), repeat=2):
            self.assert_road([((0, True), (1, False))], [saying, other], (saying, other) in steps)

    def test_a_rule_with_both_sayings_of_a_beacon_leads_from_each_to_itself(self):
        for saying, other in itertools.product(sayings_of(2), repeat=2):
            self.assert_road([((1, True), (1, False))], [saying, other], saying == other and saying[0] == 1)

    def test_each_step_is_asked(self):
        rules = [((0, False), (1, True)), ((1, False), (2, True)), ((2, False), (3, True))]
        self.assert_road(rules, [(0, True), (1, True), (2, True), (3, True)], True)
        self.assert_road(rules, [(3, False), (2, False), (1, False), (0, False)], True)
        self.assert_road(rules, [(0, True), (2, True), (3, True)], False)
        self.assert_road(rules, [(0, True), (1, True), (3, True)], False)
        self.assert_road(rules, [(0, False), (1, True), (2, True)], False)
        self.assert_road(rules, [(0, True), (1, True), (2, False)], False)
        self.assert_road(rules, [(1, True), (0, True)], False)
        self.assert_road(rules, [(0, True), (0, True)], False)

    def test_a_road_may_come_by_a_saying_again(self):
        rules = [((0, False), (1, True)), ((0, True), (1, False))]
        self.assert_road(rules, [(0, True), (1, True), (0, True), (1, True), (0, True)], True)

    def test_every_step_of_small_books(self):
        for book in small_books():
            for saying, other in itertools.product(sayings_of(2), repeat=2):
                self.assertIs(is_road(book, (saying, other)), leads_straight(book, saying, other), (book, saying, other))

    def test_what_is_handed_in_is_not_changed(self):
        road = [(0, True), (1, True)]
        is_road(book_made("eithers", [((0, False), (1, True))]), road)
        self.assertEqual(road, [(0, True), (1, True)])


class RoadTo(unittest.TestCase):
    def assert_told(self, rules, saying, other, road):
        book = book_made("eithers", rules)
        with self.subTest(rules=rules, saying=saying, other=other):
            self.assertEqual(repr(road_to(book, saying, other)), repr(road))

    def test_of_two_like_sayings_that_one_alone(self):
        for rules in ([], [()], [((4, True),)], [((4, False), (4, True))], [((4, True), (5, True)), ((4, False), (5, False))]):
            for lit in (False, True):
                self.assert_told(rules, (4, lit), (4, lit), ((4, lit),))

    def test_to_its_contrary(self):
        self.assert_told([((4, True),)], (4, False), (4, True), ((4, False), (4, True)))
        self.assert_told([((4, True),)], (4, True), (4, False), None)
        rules = [((0, False), (1, True)), ((0, False), (1, False))]
        book = book_made("eithers", rules)
        road = road_to(book, (0, True), (0, False))
        self.assertIn(road, [((0, True), (1, lit), (0, False)) for lit in (False, True)])
        self.assert_told(rules, (0, False), (0, True), None)

    def test_none_where_none_leads_there(self):
        self.assert_told([], (0, True), (1, True), None)
        self.assert_told([()], (0, True), (0, False), None)
        self.assert_told([((0, True), (1, True))], (0, True), (1, True), None)
        self.assert_told([((0, True), (1, True))], (1, True), (0, False), None)
        self.assert_told([((0, True), (1, True))], (7, True), (8, True), None)
        self.assert_told([((1, False), (1, True))], (1, False), (1, True), None)

    def test_as_short_as_any_of_several(self):
        around = [((0, False), (1, True)), ((1, False), (2, True)), ((2, False), (3, True)), ((3, False), (4, True))]
        cut = [((1, False), (4, True))]
        for rules in (around + cut, cut + around, around[::-1] + cut, around + cut + around):
            self.assert_told(rules, (0, True), (4, True), ((0, True), (1, True), (4, True)))
        straight = [((0, False), (4, True))]
        for rules in (around + straight, straight + around):
            self.assert_told(rules, (0, True), (4, True), ((0, True), (4, True)))

    def test_a_long_one_over_all_beacons(self):
        rules = [((beacon, False), (beacon + 1, True)) for beacon in range(59)]
        for handed in (rules, rules[::-1]):
            self.assert_told(handed, (0, True), (59, True), tuple([(beacon, True) for beacon in range(60)]))
            self.assert_told(handed, (59, False), (0, False), tuple([(beacon, False) for beacon in range(59, -1, -1)]))
            self.assert_told(handed, (0, False), (59, False), None)
            self.assert_told(handed, (59, True), (0, True), None)

    def test_there_and_back_over_all_beacons(self):
        rules = [((beacon, False), (beacon + 1, True)) for beacon in range(59)] + [((59, False),)]
        road = [(beacon, True) for beacon in range(60)] + [(beacon, False) for beacon in range(59, -1, -1)]
        self.assert_told(rules, (0, True), (0, False), tuple(road))

    def test_somewhat_beyond_the_bounds(self):
        book = ("eithers", tuple([((beacon, False), (beacon + 1, True)) for beacon in range(80)]))
        road = road_to(book, (0, True), (80, True))
        self.assertEqual(road, tuple([(beacon, True) for beacon in range(81)]))
        self.assertTrue(is_road(book, road))

    def test_small_books(self):
        sayings = sayings_of(3)
        for book in small_books():
            steps = distances(book, sayings)
            for saying, other in itertools.product(sayings, repeat=2):
                road = road_to(book, saying, other)
                if (saying, other) not in steps:
                    self.assertIsNone(road, (book, saying, other))
                    continue
                self.assertIsInstance(road, tuple)
                self.assertEqual((road[0], road[-1]), (saying, other))
                self.assertEqual(len(road), steps[saying, other] + 1, (book, saying, other))
                self.assertTrue(is_road(book, road), (book, road))

    def test_where_the_first_is_so_and_the_rules_hold_all_are_so(self):
        for book in small_books():
            for evening in evenings_of(3):
                if not holds(book, evening):
                    continue
                for saying, other in itertools.product(sayings_of(3), repeat=2):
                    road = road_to(book, saying, other)
                    if road is not None and evening[saying[0]] == saying[1]:
                        self.assertTrue(all(evening[step[0]] == step[1] for step in road), (book, road))


if __name__ == "__main__":
    unittest.main()
