"""A way done many times: its rings, its times and its home."""

import itertools
import unittest

from longways.errors import BadNumber, BadSpots, BadWay
from longways.times import home, rings, times
from tests.floors import BAD_SPOTS, FLOORS, HUGE, bad_ways, behind, good_ways

# Two rings of 5 and 3 places and four places that stay, rings of 5, 4 and 3, and one of 12.
FIVE_AND_THREE = [0, 4, 2, 5, 7, 10, 6, 9, 8, 11, 3, 1]
FIVE_FOUR_THREE = [1, 2, 3, 4, 0, 6, 7, 8, 5, 10, 11, 9]
TWELVE = [7, 0, 1, 2, 3, 4, 5, 8, 9, 10, 11, 6]
GREAT = (HUGE, 10 ** 59, 10 ** 60 - 2, 123456789 * 10 ** 50 + 987654321)


def some_ways(spots):
    """All ways of 2 spots, and some of the others with rings of several lengths."""
    if spots == 2:
        return [list(way) for way in itertools.permutations(range(4))]
    ways = good_ways(spots)
    ways += [behind(one, other) for one in ways for other in ways]
    if spots == 3:
        ways += [list(way) for way in itertools.permutations(range(6))][::7]
    if spots == 6:
        ways += [FIVE_AND_THREE, FIVE_FOUR_THREE, TWELVE]
    return ways


def gone_one_by_one(way, many):
    told = list(range(len(way)))
    for time in range(many):
        told = behind(told, way)
    return told


def home_by_hand(way):
    """The first count of times, gone one by one, behind which all are where they were."""
    number, told = 1, list(way)
    while told != list(range(len(way))):
        number, told = number + 1, behind(told, way)
    return number


class Rings(unittest.TestCase):
    def test_places_that_stay_are_rings_by_themselves(self):
        self.assertEqual(rings(2, [0, 1, 2, 3]), [[0], [1], [2], [3]])
        self.assertEqual(rings(2, [0, 3, 2, 1]), [[0], [1, 3], [2]])

    def test_one_ring(self):
        self.assertEqual(rings(2, [1, 3, 0, 2]), [[0, 1, 3, 2]])
        self.assertEqual(rings(3, [5, 0, 1, 2, 3, 4]), [[0, 5, 4, 3, 2, 1]])
        self.assertEqual(rings(6, TWELVE), [[0, 7, 8, 9, 10, 11, 6, 5, 4, 3, 2, 1]])

    def test_several_rings_by_their_least_places(self):
        self.assertEqual(rings(2, [3, 2, 1, 0]), [[0, 3], [1, 2]])
        self.assertEqual(rings(3, [5, 4, 2, 1, 3, 0]), [[0, 5], [1, 4, 3], [2]])
        self.assertEqual(rings(6, FIVE_FOUR_THREE), [[0, 1, 2, 3, 4], [5, 6, 7, 8], [9, 10, 11]])
        self.assertEqual(rings(6, FIVE_AND_THREE), [[0], [1, 4, 7, 9, 11], [2], [3, 5, 10], [6], [8]])

    def test_each_ring_follows_the_way(self):
        for spots in FLOORS:
            for way in some_ways(spots):
                with self.subTest(spots=spots, way=way):
                    told = rings(spots, way)
                    self.assertEqual(sorted(place for row in told for place in row), list(range(2 * spots)))
                    self.assertEqual([row[0] for row in told], sorted(min(row) for row in told))
                    for row in told:
                        self.assertIsInstance(row, list)
                        self.assertEqual([way[place] for place in row], row[1:] + row[:1])

    def test_told_lists_are_new(self):
        way = [0, 3, 2, 1]
        told = rings(2, way)
        for row in told:
            row.append(9)
        told.append([9])
        self.assertEqual(way, [0, 3, 2, 1])
        self.assertEqual(rings(2, way), [[0], [1, 3], [2]])

    def test_names(self):
        self.assertEqual(rings(way=[3, 2, 1, 0], spots=2), [[0, 3], [1, 2]])


class Times(unittest.TestCase):
    def test_times(self):
        ring = [1, 3, 0, 2]
        self.assertEqual(times(2, ring, 0), [0, 1, 2, 3])
        self.assertEqual(times(2, ring, 1), [1, 3, 0, 2])
        self.assertEqual(times(2, ring), [1, 3, 0, 2])
        self.assertEqual(times(2, ring, 2), [3, 2, 1, 0])
        self.assertEqual(times(2, ring, 3), [2, 0, 3, 1])
        self.assertEqual(times(2, ring, 4), [0, 1, 2, 3])
        self.assertEqual(times(2, ring, 5), [1, 3, 0, 2])
        self.assertEqual(times(6, FIVE_AND_THREE, 2), [0, 7, 2, 10, 9, 3, 6, 11, 8, 1, 5, 4])

    def test_one_by_one(self):
        for spots in FLOORS:
            for way in some_ways(spots):
                with self.subTest(spots=spots, way=way):
                    self.assertEqual(times(spots, way), way)
                    for many in (0, 1, 2, 3, 4, 5, 11, 12, 13, 59, 60, 61):
                        self.assertEqual(times(spots, way, many), gone_one_by_one(way, many))

    def test_counts_of_sixty_figures(self):
        self.assertEqual(times(2, [1, 3, 0, 2], HUGE), [2, 0, 3, 1])
        self.assertEqual(times(2, [1, 3, 0, 2], 10 ** 59), [0, 1, 2, 3])
        for spots in FLOORS:
            for way in some_ways(spots):
                number = home_by_hand(way)
                for many in GREAT:
                    self.assertEqual(times(spots, way, many), gone_one_by_one(way, many % number))

    def test_the_home(self):
        for spots in FLOORS:
            for way in some_ways(spots):
                self.assertEqual(times(spots, way, home(spots, way)), list(range(2 * spots)))
                self.assertEqual(times(spots, way, home(spots, way) + 1), way)

    def test_bad_number_below_nought(self):
        for spots in FLOORS:
            for way in some_ways(spots)[:20]:
                for many in (-1, -2, -60, -HUGE):
                    self.assertRaises(BadNumber, times, spots, way, many)

    def test_what_is_handed_in_stays_and_what_is_told_is_new(self):
        for way in ([0, 1, 2, 3], [1, 3, 0, 2]):
            for many in (0, 1, 4):
                kept = list(way)
                told = times(2, way, many)
                again = list(told)
                told.append(9)
                self.assertEqual(way, kept)
                self.assertEqual(times(2, way, many), again)
        told = times(2, way)
        told.clear()
        self.assertEqual(way, [1, 3, 0, 2])

    def test_names(self):
        self.assertEqual(times(many=2, way=[1, 3, 0, 2], spots=2), [3, 2, 1, 0])
        self.assertEqual(times(way=[1, 3, 0, 2], spots=2), [1, 3, 0, 2])


class Home(unittest.TestCase):
    def test_home(self):
        self.assertEqual(home(2, [0, 1, 2, 3]), 1)
        self.assertEqual(home(2, [3, 2, 1, 0]), 2)
        self.assertEqual(home(2, [1, 3, 0, 2]), 4)
        self.assertEqual(home(3, [5, 4, 2, 1, 3, 0]), 6)
        self.assertEqual(home(6, FIVE_AND_THREE), 15)
        self.assertEqual(home(6, FIVE_FOUR_THREE), 60)
        self.assertEqual(home(6, TWELVE), 12)

    def test_rings_with_lengths_that_share_a_part(self):
        self.assertEqual(home(6, [1, 0, 3, 4, 5, 2, 7, 8, 9, 10, 11, 6]), 12)
        self.assertEqual(home(5, [1, 2, 3, 0, 5, 6, 7, 8, 9, 4]), 12)
        self.assertEqual(home(3, [1, 0, 3, 4, 5, 2]), 4)

    def test_one_by_one(self):
        for spots in FLOORS:
            for way in some_ways(spots):
                with self.subTest(spots=spots, way=way):
                    self.assertEqual(home(spots, way), home_by_hand(way))

    def test_what_is_handed_in_stays(self):
        way = [1, 3, 0, 2]
        home(2, way)
        self.assertEqual(way, [1, 3, 0, 2])

    def test_names(self):
        self.assertEqual(home(way=[3, 2, 1, 0], spots=2), 2)


class Refusals(unittest.TestCase):
    def test_bad_way(self):
        for spots in FLOORS:
            for wrong, way in bad_ways(spots).items():
                with self.subTest(spots=spots, wrong=wrong):
                    self.assertRaises(BadWay, rings, spots, way)
                    self.assertRaises(BadWay, home, spots, way)
                    self.assertRaises(BadWay, times, spots, way)
                    self.assertRaises(BadWay, times, spots, way, 0)

    def test_bad_way_comes_ahead_of_bad_number(self):
        for spots in FLOORS:
            for wrong, way in bad_ways(spots).items():
                with self.subTest(spots=spots, wrong=wrong):
                    self.assertRaises(BadWay, times, spots, way, -1)
                    self.assertRaises(BadWay, times, spots, way, -HUGE)

    def test_bad_spots_come_first(self):
        for spots in BAD_SPOTS:
            for way in ([], [0, 0], [0, 1], [0, 1, 2, 3], list(range(14)), list(range(16))):
                with self.subTest(spots=spots, way=way):
                    self.assertRaises(BadSpots, rings, spots, way)
                    self.assertRaises(BadSpots, home, spots, way)
                    self.assertRaises(BadSpots, times, spots, way, 2)
                    self.assertRaises(BadSpots, times, spots, way, -1)

    def test_refused_ways_stay_as_they_were(self):
        way = [3, 3, 0, 1]
        for ask in (rings, times, home):
            self.assertRaises(BadWay, ask, 2, way)
        self.assertEqual(way, [3, 3, 0, 1])


if __name__ == "__main__":
    unittest.main()
