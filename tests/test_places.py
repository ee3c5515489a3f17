"""Floors, rings of spots and ways."""

import unittest

from longways.errors import BadCall, BadSpots, BadWay
from longways.places import ring_places, still, then, undone
from tests.floors import BAD_SPOTS, FLOORS, HUGE, bad_spans, bad_ways, good_ways, spans


class RingPlaces(unittest.TestCase):
    def test_rings_of_whole_floors(self):
        rings = {
            2: [0, 1, 3, 2],
            3: [0, 1, 3, 5, 4, 2],
            4: [0, 1, 3, 5, 7, 6, 4, 2],
            5: [0, 1, 3, 5, 7, 9, 8, 6, 4, 2],
            6: [0, 1, 3, 5, 7, 9, 11, 10, 8, 6, 4, 2],
        }
        for spots, ring in rings.items():
            with self.subTest(spots):
                self.assertEqual(ring_places(spots, 0, spots - 1), ring)

    def test_rings_of_a_part_of_the_floor(self):
        self.assertEqual(ring_places(3, 1, 2), [2, 3, 5, 4])
        self.assertEqual(ring_places(4, 1, 3), [2, 3, 5, 7, 6, 4])
        self.assertEqual(ring_places(5, 0, 1), [0, 1, 3, 2])
        self.assertEqual(ring_places(6, 2, 4), [4, 5, 7, 9, 8, 6])
        self.assertEqual(ring_places(6, 4, 5), [8, 9, 11, 10])

    def test_every_ring_goes_over_down_over_and_up(self):
        for spots in FLOORS:
            for first, last in spans(spots):
                with self.subTest(spots=spots, first=first, last=last):
                    row = ring_places(spots, first, last)
                    walked = [(place // 2, place % 2) for place in row]
                    right = [(spot, 1) for spot in range(first, last + 1)]
                    left = [(spot, 0) for spot in range(first + 1, last + 1)]
                    self.assertEqual(walked, [(first, 0)] + right + left[::-1])

    def test_bad_call_of_other_spots(self):
        for spots in FLOORS:
            for first, last in bad_spans(spots):
                with self.subTest(spots=spots, first=first, last=last):
                    self.assertRaises(BadCall, ring_places, spots, first, last)

    def test_bad_spots_come_first(self):
        for spots in BAD_SPOTS:
            for first, last in ((0, 1), (1, 0), (0, 0), (-1, 7), (0, HUGE)):
                with self.subTest(spots=spots, first=first, last=last):
                    self.assertRaises(BadSpots, ring_places, spots, first, last)

    def test_each_ring_told_is_a_new_list(self):
        ring_places(3, 0, 2).clear()
        self.assertEqual(ring_places(3, 0, 2), [0, 1, 3, 5, 4, 2])

    def test_names(self):
        self.assertEqual(ring_places(last=1, first=0, spots=2), [0, 1, 3, 2])


class Still(unittest.TestCase):
    def test_nobody_goes(self):
        self.assertEqual(still(2), [0, 1, 2, 3])
        self.assertEqual(still(3), [0, 1, 2, 3, 4, 5])
        self.assertEqual(still(4), [0, 1, 2, 3, 4, 5, 6, 7])
        self.assertEqual(still(5), [0, 1, 2, 3, 4, 5, 6, 7, 8, 9])
        self.assertEqual(still(6), [0, 1, 2, 3, 4, 5, 6, 7, 8, 9, 10, 11])

    def test_bad_spots(self):
        for spots in BAD_SPOTS:
            with self.subTest(spots):
                self.assertRaises(BadSpots, still, spots)

    def test_each_way_told_is_a_new_list(self):
        still(2).reverse()
        self.assertEqual(still(2), [0, 1, 2, 3])

    def test_names(self):
        self.assertEqual(still(spots=2), [0, 1, 2, 3])


class Then(unittest.TestCase):
    def test_the_other_way_is_behind_the_one(self):
        self.assertEqual(then(2, [1, 2, 0, 3], [0, 1, 3, 2]), [1, 3, 0, 2])
        self.assertEqual(then(2, [0, 1, 3, 2], [1, 2, 0, 3]), [1, 2, 3, 0])
        self.assertEqual(then(3, [1, 2, 3, 4, 5, 0], [1, 2, 3, 4, 5, 0]), [2, 3, 4, 5, 0, 1])

    def test_everybody_is_followed_through_both(self):
        for spots in FLOORS:
            for one in good_ways(spots):
                for other in good_ways(spots):
                    with self.subTest(spots=spots, one=one, other=other):
                        both = then(spots, one, other)
                        self.assertEqual(len(both), 2 * spots)
                        for place in range(2 * spots):
                            self.assertEqual(both[place], other[one[place]])

    def test_bad_way_on_either_side(self):
        for spots in FLOORS:
            for wrong, way in bad_ways(spots).items():
                with self.subTest(spots=spots, wrong=wrong):
                    self.assertRaises(BadWay, then, spots, way, still(spots))
                    self.assertRaises(BadWay, then, spots, still(spots), way)
                    self.assertRaises(BadWay, then, spots, way, way)

    def test_bad_spots_come_first(self):
        for spots in BAD_SPOTS:
            for way in ([], [0, 0], [0, 1], [0, 1, 2, 3], list(range(14)), list(range(16))):
                with self.subTest(spots=spots, way=way):
                    self.assertRaises(BadSpots, then, spots, way, way)

    def test_what_is_handed_in_stays_and_what_is_told_is_new(self):
        one, other = still(2), [3, 2, 1, 0]
        for first, second in ((one, other), (other, one), (one, one)):
            told = then(2, first, second)
            told.append(9)
            self.assertEqual((one, other), ([0, 1, 2, 3], [3, 2, 1, 0]))

    def test_refused_ways_stay_as_they_were(self):
        way = [3, 3, 0, 1]
        self.assertRaises(BadWay, then, 2, way, way)
        self.assertEqual(way, [3, 3, 0, 1])

    def test_names(self):
        self.assertEqual(then(other=[0, 1, 3, 2], one=[1, 2, 0, 3], spots=2), [1, 3, 0, 2])


class Undone(unittest.TestCase):
    def test_the_way_back(self):
        self.assertEqual(undone(2, [1, 2, 0, 3]), [2, 0, 1, 3])
        self.assertEqual(undone(3, [1, 2, 3, 4, 5, 0]), [5, 0, 1, 2, 3, 4])

    def test_all_are_brought_back(self):
        for spots in FLOORS:
            for way in good_ways(spots):
                with self.subTest(spots=spots, way=way):
                    back = undone(spots, way)
                    self.assertEqual([back[goal] for goal in way], list(range(2 * spots)))
                    self.assertEqual([way[goal] for goal in back], list(range(2 * spots)))

    def test_bad_way(self):
        for spots in FLOORS:
            for wrong, way in bad_ways(spots).items():
                with self.subTest(spots=spots, wrong=wrong):
                    self.assertRaises(BadWay, undone, spots, way)

    def test_bad_spots_come_first(self):
        for spots in BAD_SPOTS:
            for way in ([], [0, 0], [0, 1], [0, 1, 2, 3], list(range(14)), list(range(16))):
                with self.subTest(spots=spots, way=way):
                    self.assertRaises(BadSpots, undone, spots, way)

    def test_what_is_handed_in_stays_and_what_is_told_is_new(self):
        for way in good_ways(3):
            kept = list(way)
            undone(3, way).append(9)
            self.assertEqual(way, kept)

    def test_refused_ways_stay_as_they_were(self):
        way = [3, 3, 0, 1]
        self.assertRaises(BadWay, undone, 2, way)
        self.assertEqual(way, [3, 3, 0, 1])

    def test_names(self):
        self.assertEqual(undone(way=[1, 2, 0, 3], spots=2), [2, 0, 1, 3])


if __name__ == "__main__":
    unittest.main()
