"""Rows of fewest beats, papers and the ways reached."""

import itertools
import unittest

from longways.errors import BadCall, BadSpots, BadWay, TooMany
from longways.routes import holds, paper, reached, shortest
from tests.floors import HUGE, bad_ways, beats_by_hand, behind, way_by_hand

TWELVE_ON_TWO = [
    ("cross", 0), ("cross", 1), ("pass", 0, 0), ("pass", 0, 1), ("corner", 0, 0), ("corner", 0, 1),
    ("ring", 0, 1, 1), ("ring", 0, 1, -1), ("chain", 0, 1, 2), ("cast", 0, 1), ("lead", 0, 1), ("stand", 1),
]
TWELVE_ON_THREE = [
    ("cross", 0), ("pass", 0, 0), ("pass", 1, 1), ("corner", 0, 1), ("corner", 1, 0), ("ring", 0, 2, 1),
    ("ring", 0, 1, -3), ("chain", 0, 2, 1), ("cast", 0, 2), ("lead", 1, 2), ("stand", 64), ("ring", 0, 2, 64),
]
ALLOWED_ON_TWO = (
    [],
    [("stand", 3)],
    [("cross", 0)],
    [("cross", 0), ("cross", 0)],
    [("ring", 0, 1, 4)],
    [("ring", 0, 1, 1)],
    [("ring", 0, 1, 3), ("ring", 0, 1, -1)],
    [("ring", 0, 1, -1), ("ring", 0, 1, 3)],
    [("ring", 0, 1, 1), ("cross", 0)],
    [("cast", 0, 1), ("chain", 0, 1, 1)],
    [("cross", 0), ("pass", 0, 0), ("corner", 0, 0), ("ring", 0, 1, 64)],
    TWELVE_ON_TWO,
)
ALLOWED_ON_THREE = (
    [],
    [("cast", 0, 2)],
    [("chain", 0, 2, 2), ("lead", 0, 1)],
    [("ring", 0, 2, 1), ("ring", 0, 2, 5)],
    [("ring", 0, 2, 61), ("corner", 0, 1)],
    [("pass", 0, 0), ("pass", 1, 0), ("pass", 0, 1)],
    [("ring", 0, 1, 1), ("ring", 1, 2, 1), ("cross", 2)],
    TWELVE_ON_THREE,
)
CASES = [(2, allowed) for allowed in ALLOWED_ON_TWO] + [(3, allowed) for allowed in ALLOWED_ON_THREE]
STILL = (0, 1, 2, 3)


def numbers_by_hand(spots, allowed):
    """The fewest beats of each way: numbers are made smaller till no call makes one smaller still."""
    steps = [(way_by_hand(spots, call), beats_by_hand(call)) for call in allowed]
    numbers = {tuple(range(2 * spots)): 0}
    changed = True
    while changed:
        changed = False
        for way, number in list(numbers.items()):
            for goals, lasts in steps:
                further = tuple(behind(way, goals))
                if numbers.get(further, HUGE) > number + lasts:
                    numbers[further] = number + lasts
                    changed = True
    return numbers


def holds_by_hand(spots, allowed, way, bound, pairs):
    """The words of the document, each with the whole paper gone through."""
    found = {}
    for named, number in pairs:
        found.setdefault(named, []).append(number)
    if any(len(numbers) > 1 for numbers in found.values()):
        return False
    if not any(named == tuple(range(2 * spots)) and number <= 0 for named, number in pairs):
        return False
    for named, number in pairs:
        for call in allowed:
            further = tuple(behind(named, way_by_hand(spots, call)))
            if not any(least <= number + beats_by_hand(call) for least in found.get(further, [])):
                return False
    return all(bound is not None and number >= bound for number in found.get(tuple(way), []))


def row_by_hand(spots, row):
    """The way that a row of calls does, and its beats."""
    way = list(range(2 * spots))
    for call in row:
        way = behind(way, way_by_hand(spots, call))
    return way, sum(beats_by_hand(call) for call in row)


def all_ways(spots):
    return [list(way) for way in itertools.permutations(range(2 * spots))]


def changed_papers(pairs):
    """Papers that are like this one but in one thing."""
    papers = [pairs[::-1], pairs + pairs[:1], pairs + pairs[-1:], pairs + [(pairs[-1][0], HUGE)], []]
    papers += [[(way, number + more) for way, number in pairs] for more in (-7, -1, 1, 7, -HUGE)]
    for at, (way, number) in enumerate(pairs):
        papers += [pairs[:at] + [(way, number + more)] + pairs[at + 1:] for more in (-2, -1, 1, 2, HUGE, -HUGE)]
        papers.append(pairs[:at] + pairs[at + 1:])
    return papers


class Shortest(unittest.TestCase):
    def test_rows(self):
        self.assertEqual(shortest(2, [("cross", 0)], [1, 0, 2, 3]), [("cross", 0)])
        self.assertEqual(shortest(2, [("ring", 0, 1, 1)], [2, 0, 3, 1]), [("ring", 0, 1, 1)] * 3)
        self.assertEqual(shortest(2, [("ring", 0, 1, 3), ("ring", 0, 1, -1)], [2, 0, 3, 1]), [("ring", 0, 1, -1)])
        self.assertEqual(shortest(3, [("cast", 0, 2)], [2, 3, 4, 5, 0, 1]), [("cast", 0, 2), ("cast", 0, 2)])

    def test_more_calls_may_last_shorter(self):
        allowed = [("ring", 0, 1, 6), ("ring", 0, 1, -1)]
        self.assertEqual(shortest(2, allowed, [3, 2, 1, 0]), [("ring", 0, 1, -1), ("ring", 0, 1, -1)])
        allowed = [("ring", 0, 1, -2), ("ring", 0, 1, 1), ("cast", 0, 1)]
        self.assertEqual(shortest(2, allowed, [2, 3, 0, 1]), [("cast", 0, 1)])

    def test_the_order_of_calls_counts(self):
        allowed = [("cross", 0), ("pass", 0, 0)]
        self.assertEqual(shortest(2, allowed, [1, 2, 0, 3]), [("cross", 0), ("pass", 0, 0)])
        self.assertEqual(shortest(2, allowed, [2, 0, 1, 3]), [("pass", 0, 0), ("cross", 0)])

    def test_the_way_by_which_nobody_goes(self):
        for spots, allowed in CASES:
            self.assertEqual(shortest(spots, allowed, list(range(2 * spots))), [])

    def test_none_where_no_row_does_it(self):
        self.assertIsNone(shortest(2, [], [1, 0, 2, 3]))
        self.assertIsNone(shortest(2, [("stand", 3)], [1, 0, 2, 3]))
        self.assertIsNone(shortest(2, [("ring", 0, 1, 1)], [1, 0, 2, 3]))
        self.assertIsNone(shortest(3, [("cast", 0, 2)], [1, 0, 2, 3, 4, 5]))

    def test_each_row_does_the_way_and_none_is_shorter(self):
        for spots, allowed in CASES:
            numbers = numbers_by_hand(spots, allowed)
            for way in all_ways(spots)[::1 if spots == 2 else 23]:
                with self.subTest(spots=spots, allowed=allowed, way=way):
                    row = shortest(spots, allowed, way)
                    if tuple(way) in numbers:
                        self.assertIsInstance(row, list)
                        self.assertTrue(all(call in allowed for call in row))
                        self.assertEqual(row_by_hand(spots, row), (way, numbers[tuple(way)]))
                    else:
                        self.assertIsNone(row)

    def test_what_is_handed_in_stays_and_what_is_told_is_new(self):
        allowed, way = [("cross", 0)], [1, 0, 2, 3]
        shortest(2, allowed, way).append(("stand", 1))
        shortest(2, allowed, list(STILL)).append(("stand", 1))
        self.assertEqual((allowed, way), ([("cross", 0)], [1, 0, 2, 3]))
        self.assertEqual(shortest(2, allowed, way), [("cross", 0)])
        self.assertEqual(shortest(2, allowed, list(STILL)), [])

    def test_names(self):
        self.assertEqual(shortest(way=[1, 0, 2, 3], allowed=[("cross", 0)], spots=2), [("cross", 0)])


class Papers(unittest.TestCase):
    def test_papers(self):
        self.assertEqual(paper(2, []), [(STILL, 0)])
        self.assertEqual(sorted(paper(2, [("cross", 1)])), [(STILL, 0), ((0, 1, 3, 2), 2)])
        self.assertEqual(sorted(paper(2, [("ring", 0, 1, 1)])),
                         [(STILL, 0), ((1, 3, 0, 2), 2), ((2, 0, 3, 1), 6), ((3, 2, 1, 0), 4)])
        self.assertEqual(sorted(paper(3, [("cast", 0, 2)])),
                         [((0, 1, 2, 3, 4, 5), 0), ((2, 3, 4, 5, 0, 1), 8), ((4, 5, 0, 1, 2, 3), 4)])

    def test_each_way_that_rows_do_stands_there_once_with_its_fewest_beats(self):
        for spots, allowed in CASES:
            with self.subTest(spots=spots, allowed=allowed):
                pairs = paper(spots, allowed)
                self.assertIsInstance(pairs, list)
                self.assertTrue(all(isinstance(pair, tuple) and isinstance(pair[0], tuple) for pair in pairs))
                self.assertEqual(sorted(pairs), sorted(numbers_by_hand(spots, allowed).items()))

    def test_a_told_paper_holds_for_each_way(self):
        for spots, allowed in CASES:
            pairs = paper(spots, allowed)
            numbers = dict(pairs)
            for way in all_ways(spots)[::1 if spots == 2 else 37]:
                with self.subTest(spots=spots, allowed=allowed, way=way):
                    bound = numbers.get(tuple(way))
                    self.assertIs(holds(spots, allowed, way, bound, pairs), True)

    def test_a_row_lasts_as_its_paper_tells(self):
        for spots, allowed in CASES:
            for way, number in paper(spots, allowed)[::29]:
                self.assertEqual(row_by_hand(spots, shortest(spots, allowed, list(way))), (list(way), number))

    def test_what_is_told_is_new(self):
        allowed = [("cross", 0)]
        paper(2, allowed).clear()
        self.assertEqual(sorted(paper(2, allowed)), [(STILL, 0), ((1, 0, 2, 3), 2)])
        self.assertEqual(allowed, [("cross", 0)])

    def test_names(self):
        self.assertEqual(paper(allowed=[], spots=2), [(STILL, 0)])


class Reached(unittest.TestCase):
    def test_ways(self):
        self.assertEqual(reached(2, []), [[0, 1, 2, 3]])
        self.assertEqual(reached(2, [("ring", 0, 1, 1)]), [[0, 1, 2, 3], [1, 3, 0, 2], [2, 0, 3, 1], [3, 2, 1, 0]])
        self.assertEqual(reached(3, [("lead", 0, 2)]), [[0, 1, 2, 3, 4, 5], [2, 3, 4, 5, 0, 1], [4, 5, 0, 1, 2, 3]])
        self.assertEqual(reached(2, TWELVE_ON_TWO), all_ways(2))
        self.assertEqual(reached(3, TWELVE_ON_THREE), all_ways(3))

    def test_they_are_those_of_the_paper_rising(self):
        for spots, allowed in CASES:
            with self.subTest(spots=spots, allowed=allowed):
                told = reached(spots, allowed)
                self.assertTrue(all(isinstance(way, list) for way in told))
                self.assertEqual(told, sorted(list(way) for way in numbers_by_hand(spots, allowed)))
                self.assertEqual(told, sorted(list(way) for way, number in paper(spots, allowed)))

    def test_what_is_told_is_new(self):
        told = reached(2, [("cross", 0)])
        told[0].append(9)
        told.clear()
        self.assertEqual(reached(2, [("cross", 0)]), [[0, 1, 2, 3], [1, 0, 2, 3]])

    def test_names(self):
        self.assertEqual(reached(allowed=[], spots=2), [[0, 1, 2, 3]])


class Holds(unittest.TestCase):
    def test_bounds(self):
        allowed = [("ring", 0, 1, 1)]
        pairs = [((2, 0, 3, 1), 6), ((3, 2, 1, 0), 4), (STILL, 0), ((1, 3, 0, 2), 2)]
        for way, number in pairs:
            for bound in (number, number - 1, -1, -HUGE):
                self.assertIs(holds(2, allowed, list(way), bound, pairs), True)
            for bound in (number + 1, HUGE, None):
                self.assertIs(holds(2, allowed, list(way), bound, pairs), False)

    def test_a_way_that_is_not_in_the_paper_has_any_bound(self):
        for bound in (None, 0, 1, -HUGE, HUGE):
            self.assertIs(holds(2, [("cross", 0)], [3, 2, 1, 0], bound, [(STILL, 0), ((1, 0, 2, 3), 2)]), True)
            self.assertIs(holds(2, [], [1, 0, 2, 3], bound, [(STILL, 0)]), True)

    def test_no_pair_at_all(self):
        for allowed in ALLOWED_ON_TWO:
            for bound in (None, 0, 2):
                self.assertIs(holds(2, allowed, [0, 1, 2, 3], bound, []), False)
                self.assertIs(holds(2, allowed, [1, 0, 2, 3], bound, []), False)

    def test_the_way_by_which_nobody_goes(self):
        way = [1, 0, 2, 3]
        self.assertIs(holds(2, [], way, None, [(STILL, 0)]), True)
        self.assertIs(holds(2, [], way, None, [(STILL, -1)]), True)
        self.assertIs(holds(2, [], way, None, [(STILL, -HUGE)]), True)
        self.assertIs(holds(2, [], way, None, [(STILL, 1)]), False)
        self.assertIs(holds(2, [], way, None, [((0, 1, 3, 2), 0)]), False)

    def test_numbers_too_great_and_too_small(self):
        allowed, way = [("cross", 0), ("cross", 1)], [1, 0, 3, 2]
        pairs = [(STILL, 0), ((1, 0, 2, 3), 2), ((0, 1, 3, 2), 2), ((1, 0, 3, 2), 4)]
        self.assertIs(holds(2, allowed, way, 4, pairs), True)
        self.assertIs(holds(2, allowed, way, 4, pairs[:3] + [((1, 0, 3, 2), 5)]), False)
        self.assertIs(holds(2, allowed, way, 4, pairs[:3] + [((1, 0, 3, 2), 3)]), False)
        self.assertIs(holds(2, allowed, way, 3, pairs[:3] + [((1, 0, 3, 2), 3)]), True)
        self.assertIs(holds(2, allowed, way, 4, [(STILL, 0), ((1, 0, 2, 3), 1)] + pairs[2:]), False)
        self.assertIs(holds(2, allowed, way, 4, [(STILL, -1)] + pairs[1:]), False)
        self.assertIs(holds(2, allowed, way, 3, [(named, number - 1) for named, number in pairs]), True)

    def test_a_pair_left_out(self):
        allowed, way = [("cross", 0), ("cross", 1)], [1, 0, 3, 2]
        pairs = [(STILL, 0), ((1, 0, 2, 3), 2), ((0, 1, 3, 2), 2), ((1, 0, 3, 2), 4)]
        for at in range(4):
            self.assertIs(holds(2, allowed, way, 4, pairs[:at] + pairs[at + 1:]), False)

    def test_a_way_twice(self):
        allowed, way = [("cross", 0)], [3, 2, 1, 0]
        pairs = [(STILL, 0), ((1, 0, 2, 3), 2)]
        self.assertIs(holds(2, allowed, way, None, pairs), True)
        for more in ((STILL, 0), (STILL, -1), (STILL, 5), ((1, 0, 2, 3), 2), ((1, 0, 2, 3), 1)):
            self.assertIs(holds(2, allowed, way, None, pairs + [more]), False)
            self.assertIs(holds(2, allowed, way, None, [more] + pairs), False)

    def test_a_paper_may_have_ways_that_rows_do_not(self):
        pairs = [(STILL, 0), ((1, 0, 2, 3), 5)]
        self.assertIs(holds(2, [], [1, 0, 2, 3], 5, pairs), True)
        self.assertIs(holds(2, [], [1, 0, 2, 3], 6, pairs), False)
        self.assertIs(holds(2, [], [1, 0, 2, 3], None, pairs), False)
        self.assertIs(holds(2, [("stand", 1)], [3, 2, 1, 0], None, pairs), True)

    def test_changed_papers_by_hand(self):
        told = {True: 0, False: 0}
        for allowed in ALLOWED_ON_TWO[:-1]:
            pairs = paper(2, allowed)
            numbers = dict(pairs)
            ways = [list(way) for way, number in pairs[::5]] + [[3, 2, 0, 1]]
            for changed in changed_papers(pairs):
                for way in ways:
                    number = numbers.get(tuple(way), 3)
                    for bound in (number - 1, number, number + 1, None):
                        due = holds_by_hand(2, allowed, way, bound, changed)
                        self.assertIs(holds(2, allowed, way, bound, changed), due, (allowed, way, bound, changed))
                        told[due] += 1
        self.assertGreater(min(told.values()), 200)

    def test_long_papers(self):
        pairs = paper(3, TWELVE_ON_THREE)
        numbers = dict(pairs)
        way = [5, 4, 3, 2, 1, 0]
        bound = numbers[tuple(way)]
        self.assertEqual(len(pairs), 720)
        self.assertIs(holds(3, TWELVE_ON_THREE, way, bound, pairs), True)
        self.assertIs(holds(3, TWELVE_ON_THREE, way, bound, pairs[::-1]), True)
        self.assertIs(holds(3, TWELVE_ON_THREE, way, bound + 1, pairs), False)
        self.assertIs(holds(3, TWELVE_ON_THREE, way, None, pairs), False)
        self.assertIs(holds(3, TWELVE_ON_THREE, way, bound, pairs + pairs[:80]), False)
        for at in range(0, 720, 90):
            self.assertIs(holds(3, TWELVE_ON_THREE, way, bound, pairs[:at] + pairs[at + 1:]), False)

    def test_what_is_handed_in_stays(self):
        allowed, way, pairs = [("cross", 0)], [1, 0, 2, 3], [((1, 0, 2, 3), 2), (STILL, 0)]
        holds(2, allowed, way, 2, pairs)
        self.assertEqual((allowed, way, pairs), ([("cross", 0)], [1, 0, 2, 3], [((1, 0, 2, 3), 2), (STILL, 0)]))

    def test_names(self):
        told = holds(pairs=[(STILL, 0)], bound=None, way=[1, 0, 2, 3], allowed=[], spots=2)
        self.assertIs(told, True)


class Refusals(unittest.TestCase):
    def refused(self, error, spots, allowed, way):
        for pairs in ([], [(tuple(range(4)), 0)]):
            for bound in (None, 0):
                self.assertRaises(error, holds, spots, allowed, way, bound, pairs)
        self.assertRaises(error, shortest, spots, allowed, way)

    def refused_by_all(self, error, spots, allowed, way):
        self.refused(error, spots, allowed, way)
        self.assertRaises(error, paper, spots, allowed)
        self.assertRaises(error, reached, spots, allowed)

    def test_bad_spots_come_first(self):
        for spots in (1, 4, 5, 6, 7, 0, -1, -2, HUGE, -HUGE):
            for allowed in ([], [("stand", 1)], [("stand", 1)] * 13, [("swing",)], [("swing",)] * 13):
                for way in ([], [0, 1], [0, 1, 2, 3], [0, 0, 1, 1, 2, 2], list(range(8))):
                    self.refused_by_all(BadSpots, spots, allowed, way)

    def test_too_many_comes_ahead_of_bad_call_and_bad_way(self):
        for spots in (2, 3):
            for allowed in ([("stand", 1)] * 13, [("swing",)] * 13, [("swing",)] * 200, TWELVE_ON_TWO + [("stand", 2)]):
                for way in ([], list(range(2 * spots))):
                    self.refused_by_all(TooMany, spots, allowed, way)

    def test_twelve_are_allowed(self):
        for spots in (2, 3):
            still = list(range(2 * spots))
            for allowed in ([("stand", 1)] * 12, TWELVE_ON_TWO):
                self.assertEqual(shortest(spots, allowed, still), [])
                self.assertIn((tuple(still), 0), paper(spots, allowed))
                self.assertIn(still, reached(spots, allowed))
                self.assertIs(holds(spots, allowed, still, 0, []), False)

    def test_bad_call_comes_ahead_of_bad_way(self):
        for spots in (2, 3):
            wrong = [("swing",), ("cross", spots), ("cross", -1), ("pass", spots - 1, 0), ("stand", 0), ("stand", 65)]
            for call in wrong + [()]:
                for allowed in ([call], [("cross", 0), call], [call] * 12, [call] + [("stand", 1)] * 11):
                    for way in ([], [0, 0, 1, 1], list(range(2 * spots))):
                        self.refused_by_all(BadCall, spots, allowed, way)
        self.refused_by_all(BadCall, 2, [("cast", 0, 2)], [0, 1, 2, 3])

    def test_bad_way(self):
        for spots in (2, 3):
            for wrong, way in bad_ways(spots).items():
                for allowed in ([], [("cross", 0)], [("stand", 1)] * 12):
                    with self.subTest(spots=spots, wrong=wrong):
                        self.refused(BadWay, spots, allowed, way)

    def test_what_is_refused_stays_as_it_was(self):
        allowed, way = [("cross", 0)], [0, 0, 1, 2]
        self.refused(BadWay, 2, allowed, way)
        self.assertEqual((allowed, way), ([("cross", 0)], [0, 0, 1, 2]))


if __name__ == "__main__":
    unittest.main()
