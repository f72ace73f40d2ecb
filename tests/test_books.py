"""Books and evenings (points 2, 4, 5, 6, 7 and the interface's part on books.py)."""

import copy
import itertools
import unittest

from duskbook import errors
from duskbook.books import beacons_of, book_made, broken_rules, holds, is_void, left_behind
from oddities import NO_TRUTHS, EqualToAll, Unequalled, named
from samples import KINDS, evenings_of, is_so, rules_of

NO_BEACONS_NOR_NONE = [
    True, False, "", "0", "five", [], [0], (), (0,), {}, {0: 0}, -1, 60, 61, -60, 10 ** 400,
    1.0, b"0", object(), EqualToAll(), Unequalled(), {0}, int, range(3),
]
NO_BEACONS = NO_BEACONS_NOR_NONE + [None]
NO_KINDS = [
    None, True, False, 0, 1, "", "either", "sum", "if", "not", "Eithers", "SUMS", " ifs", "nots ", "eitherssums",
    [], ["sums"], list("ifs"), (), ("sums",), KINDS, {}, {"sums": "sums"}, {"ifs"}, 1.0, b"sums", object(),
    EqualToAll(), Unequalled(), str,
]


class Refusing(unittest.TestCase):
    def assert_no_book(self, kind, rules):
        with self.assertRaises(errors.NoBook) as taken:
            book_made(kind, rules)
        refusal = taken.exception
        self.assertIsInstance(refusal, errors.DuskError)
        self.assertIsInstance(refusal, ValueError)
        for name in ("NoHands", "Over", "NoLight", "NoneSettled", "NoTable", "NoPage", "NoPaper"):
            self.assertNotIsInstance(refusal, getattr(errors, name))


class BooksMade(unittest.TestCase):
    def assert_made(self, kind, rules, made):
        book = book_made(kind, rules)
        self.assertEqual(book, (kind, made))
        # As 0 == False and 1 == True, the written form is compared too.
        self.assertEqual(repr(book), repr((kind, made)))

    def test_eithers(self):
        rules = [[[3, True], [1, False]], ((1, True), (1, False)), ([2, True],), [(5, False), [4, False]], [], ()]
        made = (((1, False), (3, True)), ((1, False), (1, True)), ((2, True),), ((4, False), (5, False)), (), ())
        self.assert_made("eithers", rules, made)
        self.assert_made("eithers", tuple(rules), made)

    def test_sums(self):
        rules = [([3, 1, 2], True), [(9, 0), False], ((), True), ([], False), ((7,), True)]
        made = (((1, 2, 3), True), ((0, 9), False), ((), True), ((), False), ((7,), True))
        self.assert_made("sums", rules, made)
        self.assert_made("sums", tuple(rules), made)

    def test_ifs_and_nots(self):
        rules = [([3, 1, 2], 0), [(9, 0), None], ((), None), ([], 4), ((7,), 7), [[6, 5], 5]]
        made = (((1, 2, 3), 0), ((0, 9), None), ((), None), ((), 4), ((7,), 7), ((5, 6), 5))
        for kind in ("ifs", "nots"):
            self.assert_made(kind, rules, made)
            self.assert_made(kind, tuple(rules), made)

    def test_beacons_are_in_the_order_of_numbers(self):
        self.assert_made("sums", [((10, 9, 59, 0, 1), False)], (((0, 1, 9, 10, 59), False),))
        self.assert_made("eithers", [((10, False), (9, True))], (((9, True), (10, False)),))

    def test_of_one_beacon_the_dark_saying_is_first(self):
        for sayings in itertools.permutations([(4, True), (4, False)]):
            self.assert_made("eithers", [sayings], (((4, False), (4, True)),))

    def test_rules_keep_their_order_and_like_ones_stay(self):
        self.assert_made("sums", [((5,), True), ((2,), False), ([5], True), ((2,), True), ((5,), True)],
                         (((5,), True), ((2,), False), ((5,), True), ((2,), True), ((5,), True)))
        self.assert_made("eithers", [[(1, True)], [(0, True)], [(1, True)]],
                         (((1, True),), ((0, True),), ((1, True),)))
        for kind in ("ifs", "nots"):
            self.assert_made(kind, [((3,), None), ((1,), 0), ((3,), None)], (((3,), None), ((1,), 0), ((3,), None)))

    def test_no_rule_at_all(self):
        for kind in KINDS:
            for rules in ([], ()):
                self.assert_made(kind, rules, ())

    def test_sixty_rules(self):
        for kind, rule in (("eithers", ((0, True),)), ("sums", ((0,), True)), ("ifs", ((0,), 1)), ("nots", ((0,), 1))):
            self.assert_made(kind, [rule] * 60, (rule,) * 60)

    def test_the_least_and_the_greatest_beacon(self):
        self.assert_made("eithers", [[(59, True), (0, False)]], (((0, False), (59, True)),))
        self.assert_made("sums", [([59, 0], True)], (((0, 59), True),))
        for kind in ("ifs", "nots"):
            self.assert_made(kind, [([59, 0], 0), ([], 59)], (((0, 59), 0), ((), 59)))

    def test_all_beacons_in_one_rule(self):
        beacons = tuple(range(60))
        self.assert_made("sums", [(beacons[::-1], False)], ((beacons, False),))
        for kind in ("ifs", "nots"):
            self.assert_made(kind, [(list(beacons[::-1]), 30)], ((beacons, 30),))

    def test_a_made_book_made_again_is_the_same(self):
        for kind in KINDS:
            book = book_made(kind, rules_of(kind, 2) * 2)
            self.assertEqual(book_made(book[0], book[1]), book)

    def test_what_is_handed_in_is_neither_changed_nor_kept(self):
        handed = {
            "eithers": [[[3, True], [1, False]], [[2, True]]],
            "sums": [[[3, 1], True], [[2], False]],
            "ifs": [[[3, 1], 0], [[2], None]],
            "nots": [[[3, 1], 0], [[2], None]],
        }
        for kind, rules in handed.items():
            with self.subTest(kind=kind):
                before = copy.deepcopy(rules)
                book = book_made(kind, rules)
                told = repr(book)
                self.assertEqual(rules, before)
                rules[0][0][0] = 7
                rules[0][0].append(8)
                rules[1].append(9)
                rules.append("more")
                self.assertEqual(repr(book), told)
                self.assert_tuples_alone(book)

    def assert_tuples_alone(self, thing):
        self.assertIsInstance(thing, (tuple, int, str, type(None)))
        if isinstance(thing, tuple):
            for part in thing:
                self.assert_tuples_alone(part)


class BooksRefused(Refusing):
    def test_kinds_of_any_kind(self):
        for kind in NO_KINDS:
            with self.subTest(kind=named(kind)):
                self.assert_no_book(kind, [])
                self.assert_no_book(kind, ())

    def test_sixty_one_rules(self):
        for kind, rule in (("eithers", ()), ("sums", ((), False)), ("ifs", ((0,), 0)), ("nots", ((0,), 0))):
            self.assert_no_book(kind, [rule] * 61)
            self.assert_no_book(kind, (rule,) * 61)

    def test_no_beacon_in_a_saying(self):
        for thing in NO_BEACONS:
            with self.subTest(thing=named(thing)):
                self.assert_no_book("eithers", [[(thing, True)]])
                self.assert_no_book("eithers", [((3, False), [thing, False])])
                self.assert_no_book("eithers", [(), [[thing, False], [3, True]]])
                self.assert_no_book("eithers", [[(thing, True), (thing, True)]])

    def test_no_beacon_in_a_sum(self):
        for thing in NO_BEACONS:
            with self.subTest(thing=named(thing)):
                self.assert_no_book("sums", [([thing], True)])
                self.assert_no_book("sums", [((), False), ((3, thing, 4), False)])
                self.assert_no_book("sums", [((thing, 3, thing), False)])

    def test_no_beacon_in_a_body(self):
        for kind in ("ifs", "nots"):
            for thing in NO_BEACONS:
                with self.subTest(kind=kind, thing=named(thing)):
                    self.assert_no_book(kind, [([thing], 2)])
                    self.assert_no_book(kind, [((), None), ((3, thing, 4), None)])
                    self.assert_no_book(kind, [((thing, 3, thing), None)])

    def test_no_beacon_as_a_head(self):
        for kind in ("ifs", "nots"):
            for thing in NO_BEACONS_NOR_NONE:
                with self.subTest(kind=kind, thing=named(thing)):
                    self.assert_no_book(kind, [((), thing)])
                    self.assert_no_book(kind, [((), None), ([1, 2], thing)])

    def test_no_truth_in_a_saying(self):
        for thing in NO_TRUTHS:
            with self.subTest(thing=named(thing)):
                self.assert_no_book("eithers", [[(3, thing)]])
                self.assert_no_book("eithers", [(), ((3, False), [2, thing])])
                self.assert_no_book("eithers", [[[2, thing], [3, True]]])

    def test_no_truth_in_a_sum(self):
        for thing in NO_TRUTHS:
            with self.subTest(thing=named(thing)):
                self.assert_no_book("sums", [((3,), thing)])
                self.assert_no_book("sums", [((), False), ([], thing)])

    def test_a_saying_twice(self):
        for lit in (False, True):
            self.assert_no_book("eithers", [((2, lit), (2, lit))])
            self.assert_no_book("eithers", [[], [[2, lit], (2, lit)]])

    def test_a_beacon_twice(self):
        for beacons in ((2, 2), [0, 1, 0], (59, 3, 59), [4, 5, 5]):
            for odd in (False, True):
                self.assert_no_book("sums", [((), False), (beacons, odd)])
            for kind in ("ifs", "nots"):
                for head in (None, 2, 7):
                    self.assert_no_book(kind, [((), None), (beacons, head)])

    def test_three_sayings(self):
        self.assert_no_book("eithers", [((0, True), (1, True), (2, True))])
        self.assert_no_book("eithers", [[(0, True), (0, False), (1, True)]])
        self.assert_no_book("eithers", [[(0, True), (0, False), (0, True)]])
        self.assert_no_book("eithers", [[(beacon, True) for beacon in range(60)]])

    def test_one_wrong_rule_among_sixty(self):
        wrong = {"eithers": ((60, True),), "sums": ((60,), True), "ifs": ((60,), 1), "nots": ((), 60)}
        fine = {"eithers": ((59, True),), "sums": ((59,), True), "ifs": ((59,), 1), "nots": ((), 59)}
        for kind in KINDS:
            for place in (0, 30, 59):
                rules = [fine[kind]] * 60
                rules[place] = wrong[kind]
                self.assert_no_book(kind, rules)

    def test_where_it_refuses_nothing_is_changed(self):
        for kind, rules in (("eithers", [[[2, True], [1, 0]]]), ("sums", [[[3, 1, 3], True]]),
                            ("ifs", [[[3, 1], 60]]), ("nots", [[[3, -1], 0]]), ("none", [[[3, 1], 0]])):
            before = copy.deepcopy(rules)
            self.assert_no_book(kind, rules)
            self.assertEqual(rules, before)


class Holding(unittest.TestCase):
    def assert_holds(self, kind, rule, evening, so):
        for row in (tuple(evening), list(evening)):
            with self.subTest(kind=kind, rule=rule, evening=row):
                self.assertIs(holds((kind, (rule,)), row), so)
                self.assertEqual(broken_rules((kind, (rule,)), row), [] if so else [0])

    def test_every_rule_of_three_beacons_on_every_evening(self):
        for kind in KINDS:
            for rule in rules_of(kind, 3):
                for evening in evenings_of(3):
                    self.assert_holds(kind, rule, evening, is_so(kind, rule, evening))

    def test_eithers(self):
        self.assert_holds("eithers", ((0, True), (1, False)), (True, True), True)
        self.assert_holds("eithers", ((0, True), (1, False)), (False, False), True)
        self.assert_holds("eithers", ((0, True), (1, False)), (False, True), False)
        self.assert_holds("eithers", ((1, False), (1, True)), (False, True), True)
        self.assert_holds("eithers", (), (True,), False)

    def test_sums(self):
        self.assert_holds("sums", ((0, 1, 2), True), (True, True, True), True)
        self.assert_holds("sums", ((0, 1, 2), True), (True, False, True), False)
        self.assert_holds("sums", ((0, 2), False), (False, True, False), True)
        self.assert_holds("sums", ((0, 2), False), (True, True, False), False)
        self.assert_holds("sums", ((), False), (), True)
        self.assert_holds("sums", ((), True), (), False)

    def test_ifs(self):
        self.assert_holds("ifs", ((0, 1), 2), (True, True, False), False)
        self.assert_holds("ifs", ((0, 1), 2), (True, True, True), True)
        self.assert_holds("ifs", ((0, 1), 2), (True, False, False), True)
        self.assert_holds("ifs", ((0, 1), None), (True, True, True), False)
        self.assert_holds("ifs", ((0,), 0), (True,), True)
        self.assert_holds("ifs", ((0,), 0), (False,), True)
        self.assert_holds("ifs", ((), 0), (False,), False)
        self.assert_holds("ifs", ((), 0), (True,), True)
        self.assert_holds("ifs", ((), None), (), False)

    def test_nots(self):
        self.assert_holds("nots", ((0, 1), 2), (False, False, True), False)
        self.assert_holds("nots", ((0, 1), 2), (False, False, False), True)
        self.assert_holds("nots", ((0, 1), 2), (False, True, True), True)
        self.assert_holds("nots", ((0, 1), None), (False, False, False), False)
        self.assert_holds("nots", ((0,), 0), (True,), True)
        self.assert_holds("nots", ((0,), 0), (False,), True)
        self.assert_holds("nots", ((), 0), (True,), False)
        self.assert_holds("nots", ((), 0), (False,), True)
        self.assert_holds("nots", ((), None), (), False)

    def test_broken_rules_are_told_by_their_places(self):
        book = book_made("sums", [((0,), True), ((), True), ((), False), ((1,), True), ((0,), True), ((0, 1), False)])
        self.assertEqual(broken_rules(book, [False, True]), [0, 1, 4, 5])
        self.assertEqual(broken_rules(book, (True, True)), [1])
        self.assertFalse(holds(book, (True, True)))
        book = book_made("ifs", [((0,), 1)] * 60)
        self.assertEqual(broken_rules(book, (True, False)), list(range(60)))

    def test_all_rules_of_a_book_are_asked(self):
        for kind in KINDS:
            rules = rules_of(kind, 2)
            for evening in evenings_of(2):
                broken = [place for place, rule in enumerate(rules) if not is_so(kind, rule, evening)]
                self.assertEqual(broken_rules((kind, tuple(rules)), evening), broken)
                fine = tuple([rule for rule in rules if is_so(kind, rule, evening)])
                self.assertIs(holds((kind, fine), evening), True)

    def test_no_rule_is_broken_where_there_is_none(self):
        for kind in KINDS:
            for evening in ((), [], (True,), [False] * 60):
                self.assertIs(holds((kind, ()), evening), True)
                self.assertEqual(broken_rules((kind, ()), evening), [])

    def test_an_evening_may_be_longer_than_the_book_needs(self):
        book = book_made("eithers", [((0, True),)])
        self.assertTrue(holds(book, [True] + [False] * 59))
        self.assertTrue(holds(book_made("sums", [((59,), True)]), (False,) * 59 + (True,)))

    def test_what_lies_somewhat_beyond_the_bounds_is_not_refused(self):
        book = ("sums", (((60, 63), True),) * 62)
        evening = [False] * 60 + [True, False, False, False]
        self.assertTrue(holds(book, evening))
        evening[63] = True
        self.assertEqual(broken_rules(book, evening), list(range(62)))
        self.assertEqual(beacons_of(book), [60, 63])
        self.assertEqual(left_behind(book, 63, True), ("sums", (((60,), False),) * 62))

    def test_an_evening_is_not_changed_and_the_list_is_the_askers_own(self):
        book = book_made("sums", [((0,), True), ((1,), True)])
        evening = [False, False]
        first = broken_rules(book, evening)
        first.append(7)
        self.assertEqual(broken_rules(book, evening), [0, 1])
        self.assertEqual(evening, [False, False])
        self.assertIsInstance(first, list)


class BeaconsOfBooks(unittest.TestCase):
    def test_each_kind(self):
        self.assertEqual(beacons_of(book_made("eithers", [((9, True), (3, False)), (), ((3, True), (3, False))])), [3, 9])
        self.assertEqual(beacons_of(book_made("sums", [((10, 9), True), ((), True), ((2, 9), False)])), [2, 9, 10])
        for kind in ("ifs", "nots"):
            self.assertEqual(beacons_of(book_made(kind, [((5, 4), 0), ((), 59), ((5,), 5), ((7,), None)])), [0, 4, 5, 7, 59])

    def test_no_beacon(self):
        for kind in KINDS:
            self.assertEqual(beacons_of((kind, ())), [])
        self.assertEqual(beacons_of(("eithers", ((),))), [])
        self.assertEqual(beacons_of(("sums", (((), True), ((), False)))), [])
        self.assertEqual(beacons_of(("ifs", (((), None),))), [])
        self.assertEqual(beacons_of(("nots", (((), None),))), [])

    def test_all_beacons(self):
        self.assertEqual(beacons_of(book_made("sums", [(list(range(59, -1, -1)), True)] * 2)), list(range(60)))

    def test_the_list_is_the_askers_own(self):
        book = book_made("sums", [((0, 1), True)])
        first = beacons_of(book)
        self.assertIsInstance(first, list)
        first.clear()
        self.assertEqual(beacons_of(book), [0, 1])


class VoidRules(unittest.TestCase):
    def test_the_void_ones(self):
        for kind, rule in (("eithers", ()), ("sums", ((), True)), ("ifs", ((), None)), ("nots", ((), None))):
            with self.subTest(kind=kind):
                self.assertIs(is_void(kind, rule), True)

    def test_a_rule_without_beacons_that_is_not_void(self):
        self.assertIs(is_void("sums", ((), False)), False)

    def test_no_rule_with_beacons_is_void(self):
        void = {"eithers": [()], "sums": [((), True)], "ifs": [((), None)], "nots": [((), None)]}
        for kind in KINDS:
            for rule in rules_of(kind, 3):
                with self.subTest(kind=kind, rule=rule):
                    self.assertIs(is_void(kind, rule), rule in void[kind])

    def test_a_head_alone(self):
        for kind in ("ifs", "nots"):
            for head in (0, 1, 59):
                self.assertIs(is_void(kind, ((), head)), False)


class LeftBehind(unittest.TestCase):
    def assert_left(self, kind, rules, beacon, lit, left):
        book = (kind, tuple(rules))
        with self.subTest(kind=kind, rules=rules, beacon=beacon, lit=lit):
            self.assertEqual(left_behind(book, beacon, lit), (kind, tuple(left)))
            self.assertEqual(repr(left_behind(book, beacon, lit)), repr((kind, tuple(left))))

    def test_eithers(self):
        self.assert_left("eithers", [((1, True), (2, False))], 1, True, [])
        self.assert_left("eithers", [((1, True), (2, False))], 1, False, [((2, False),)])
        self.assert_left("eithers", [((1, True), (2, False))], 2, True, [((1, True),)])
        self.assert_left("eithers", [((1, True), (2, False))], 2, False, [])
        self.assert_left("eithers", [((1, True), (2, False))], 0, True, [((1, True), (2, False))])
        self.assert_left("eithers", [((1, True),)], 1, False, [()])
        self.assert_left("eithers", [((1, False),)], 1, True, [()])
        self.assert_left("eithers", [((1, False),)], 1, False, [])

    def test_an_either_with_both_sayings_of_the_beacon(self):
        for lit in (False, True):
            self.assert_left("eithers", [((1, False), (1, True))], 1, lit, [])
            self.assert_left("eithers", [((1, False), (1, True))], 0, lit, [((1, False), (1, True))])

    def test_sums(self):
        self.assert_left("sums", [((1, 2, 3), True)], 2, True, [((1, 3), False)])
        self.assert_left("sums", [((1, 2, 3), True)], 2, False, [((1, 3), True)])
        self.assert_left("sums", [((1, 2, 3), False)], 2, True, [((1, 3), True)])
        self.assert_left("sums", [((1, 2, 3), False)], 2, False, [((1, 3), False)])
        self.assert_left("sums", [((1, 3), False)], 2, True, [((1, 3), False)])

    def test_a_sum_that_has_no_beacon_left(self):
        self.assert_left("sums", [((1,), True)], 1, True, [])
        self.assert_left("sums", [((1,), True)], 1, False, [((), True)])
        self.assert_left("sums", [((1,), False)], 1, True, [((), True)])
        self.assert_left("sums", [((1,), False)], 1, False, [])

    def test_ifs(self):
        self.assert_left("ifs", [((1, 2), 3)], 1, True, [((2,), 3)])
        self.assert_left("ifs", [((1, 2), 3)], 1, False, [])
        self.assert_left("ifs", [((1, 2), 3)], 3, True, [])
        self.assert_left("ifs", [((1, 2), 3)], 3, False, [((1, 2), None)])
        self.assert_left("ifs", [((1, 2), None)], 2, True, [((1,), None)])
        self.assert_left("ifs", [((1,), None)], 1, True, [((), None)])
        self.assert_left("ifs", [((1,), None)], 1, False, [])
        self.assert_left("ifs", [((1,), 3)], 1, True, [((), 3)])
        self.assert_left("ifs", [((), 3)], 3, False, [((), None)])
        self.assert_left("ifs", [((), 3)], 3, True, [])

    def test_nots(self):
        self.assert_left("nots", [((1, 2), 3)], 1, False, [((2,), 3)])
        self.assert_left("nots", [((1, 2), 3)], 1, True, [])
        self.assert_left("nots", [((1, 2), 3)], 3, False, [])
        self.assert_left("nots", [((1, 2), 3)], 3, True, [((1, 2), None)])
        self.assert_left("nots", [((1, 2), None)], 2, False, [((1,), None)])
        self.assert_left("nots", [((1,), None)], 1, False, [((), None)])
        self.assert_left("nots", [((1,), None)], 1, True, [])
        self.assert_left("nots", [((1,), 3)], 1, False, [((), 3)])
        self.assert_left("nots", [((), 3)], 3, True, [((), None)])
        self.assert_left("nots", [((), 3)], 3, False, [])

    def test_a_beacon_in_the_body_and_as_the_head(self):
        for kind in ("ifs", "nots"):
            for lit in (False, True):
                self.assert_left(kind, [((1, 2), 2)], 2, lit, [])
                self.assert_left(kind, [((2,), 2)], 2, lit, [])

    def test_a_beacon_in_none_of_the_rules(self):
        books = {
            "eithers": [((1, True), (2, False)), ()],
            "sums": [((1, 2), True), ((), True), ((), False)],
            "ifs": [((1,), 2), ((1, 2), None), ((), None), ((), 2)],
            "nots": [((1,), 2), ((1, 2), None), ((), None), ((), 2)],
        }
        for kind in KINDS:
            for beacon in (0, 3, 59):
                for lit in (False, True):
                    self.assert_left(kind, books[kind], beacon, lit, books[kind])
                    self.assert_left(kind, [], beacon, lit, [])

    def test_a_rule_without_beacons_that_stood_there_stays(self):
        for lit in (False, True):
            self.assert_left("eithers", [(), ((0, lit),), ()], 0, lit, [(), ()])
            self.assert_left("sums", [((), False), ((0,), lit), ((), True)], 0, lit, [((), False), ((), True)])
            self.assert_left("ifs", [((), None), ((0,), 0)], 0, lit, [((), None)])
            self.assert_left("nots", [((), None), ((0,), 0)], 0, lit, [((), None)])

    def test_rules_stay_in_order_and_like_ones_as_often_as_they_came(self):
        rules = [((0, 3), True), ((2,), True), ((0, 3), True), ((0,), True), ((1,), False), ((0, 2), False)]
        self.assert_left("sums", rules, 0, True, [((3,), False), ((2,), True), ((3,), False), ((1,), False), ((2,), True)])
        rules = [((0, True), (3, True)), ((2, False),), ((0, False), (1, True)), ((0, True), (3, True))]
        self.assert_left("eithers", rules, 0, False, [((3, True),), ((2, False),), ((3, True),)])
        rules = [((0, 4), 1), ((), 0), ((0, 4), 1), ((2,), 3)]
        self.assert_left("ifs", rules, 0, True, [((4,), 1), ((4,), 1), ((2,), 3)])
        self.assert_left("nots", rules, 0, False, [((4,), 1), ((4,), 1), ((2,), 3)])

    def test_what_is_left_holds_just_where_the_rule_does(self):
        for kind in KINDS:
            for rule in rules_of(kind, 3):
                for beacon in range(3):
                    for evening in evenings_of(3):
                        left = left_behind((kind, (rule,)), beacon, evening[beacon])
                        self.assertNotIn(beacon, beacons_of(left))
                        self.assertEqual(holds(left, evening), is_so(kind, rule, evening))

    def test_behind_all_beacons_the_void_rules_tell_who_has_won(self):
        for kind in KINDS:
            book = (kind, tuple(rules_of(kind, 3)))
            for evening in evenings_of(3):
                left = book
                for beacon, lit in enumerate(evening):
                    left = left_behind(left, beacon, lit)
                self.assertEqual(beacons_of(left), [])
                void = [rule for rule in left[1] if is_void(kind, rule)]
                self.assertEqual(len(void), len(broken_rules(book, evening)))

    def test_the_book_is_not_changed(self):
        book = book_made("ifs", [((0, 1), 2)])
        left_behind(book, 0, True)
        self.assertEqual(book, ("ifs", (((0, 1), 2),)))


if __name__ == "__main__":
    unittest.main()
