"""Calls: their ways, places, beats and bounds, and what stands for them in a figure turned about."""

import unittest

from longways.calls import beats, call_way, taken, turned_call
from longways.errors import BadCall, BadSpots
from tests.floors import BAD_SPOTS, FLOORS, HUGE, MANIES, bad_spans, good_calls, spans, way_by_hand

ALL_FOUR = (call_way, taken, beats, turned_call)
COUNTS = {"ring": 3, "chain": 3, "cross": 1, "pass": 2, "corner": 2, "cast": 2, "lead": 2, "stand": 1}


class Refusing(unittest.TestCase):
    def refused(self, spots, call):
        for ask in ALL_FOUR:
            with self.subTest(ask.__name__, spots=spots, call=call):
                self.assertRaises(BadCall, ask, spots, call)

    def allowed(self, spots, call):
        for ask in ALL_FOUR:
            with self.subTest(ask.__name__, spots=spots, call=call):
                ask(spots, call)


class Ways(unittest.TestCase):
    def test_rings(self):
        self.assertEqual(call_way(2, ("ring", 0, 1, 1)), [1, 3, 0, 2])
        self.assertEqual(call_way(2, ("ring", 0, 1, -1)), [2, 0, 3, 1])
        self.assertEqual(call_way(3, ("ring", 1, 2, 1)), [0, 1, 3, 5, 2, 4])
        self.assertEqual(call_way(3, ("ring", 0, 2, 2)), [3, 5, 1, 4, 0, 2])

    def test_rings_right_round_and_further(self):
        self.assertEqual(call_way(2, ("ring", 0, 1, 4)), [0, 1, 2, 3])
        self.assertEqual(call_way(2, ("ring", 0, 1, -4)), [0, 1, 2, 3])
        self.assertEqual(call_way(2, ("ring", 0, 1, 5)), [1, 3, 0, 2])
        self.assertEqual(call_way(2, ("ring", 0, 1, 64)), [0, 1, 2, 3])
        self.assertEqual(call_way(2, ("ring", 0, 1, -63)), [1, 3, 0, 2])
        self.assertEqual(call_way(3, ("ring", 0, 2, 64)), call_way(3, ("ring", 0, 2, 4)))
        self.assertEqual(call_way(3, ("ring", 0, 2, -64)), call_way(3, ("ring", 0, 2, 2)))

    def test_chains(self):
        self.assertEqual(call_way(2, ("chain", 0, 1, 1)), [1, 0, 3, 2])
        self.assertEqual(call_way(2, ("chain", 0, 1, -1)), [2, 3, 0, 1])
        self.assertEqual(call_way(2, ("chain", 0, 1, 2)), [3, 2, 1, 0])
        self.assertEqual(call_way(3, ("chain", 0, 2, 2)), [3, 2, 5, 4, 0, 1])
        self.assertEqual(call_way(4, ("chain", 1, 2, 1)), [0, 1, 3, 2, 5, 4, 6, 7])

    def test_exchanges(self):
        self.assertEqual(call_way(2, ("cross", 0)), [1, 0, 2, 3])
        self.assertEqual(call_way(2, ("cross", 1)), [0, 1, 3, 2])
        self.assertEqual(call_way(2, ("pass", 0, 0)), [2, 1, 0, 3])
        self.assertEqual(call_way(2, ("pass", 0, 1)), [0, 3, 2, 1])
        self.assertEqual(call_way(3, ("pass", 1, 1)), [0, 1, 2, 5, 4, 3])
        self.assertEqual(call_way(2, ("corner", 0, 0)), [3, 1, 2, 0])
        self.assertEqual(call_way(2, ("corner", 0, 1)), [0, 2, 1, 3])
        self.assertEqual(call_way(3, ("corner", 1, 0)), [0, 1, 5, 3, 4, 2])

    def test_casts_and_leads(self):
        self.assertEqual(call_way(2, ("cast", 0, 1)), [2, 3, 0, 1])
        self.assertEqual(call_way(3, ("cast", 0, 2)), [4, 5, 0, 1, 2, 3])
        self.assertEqual(call_way(3, ("lead", 0, 2)), [2, 3, 4, 5, 0, 1])
        self.assertEqual(call_way(4, ("cast", 1, 3)), [0, 1, 6, 7, 2, 3, 4, 5])
        self.assertEqual(call_way(4, ("lead", 1, 3)), [0, 1, 4, 5, 6, 7, 2, 3])

    def test_standing(self):
        self.assertEqual(call_way(2, ("stand", 64)), [0, 1, 2, 3])

    def test_every_call_of_every_floor(self):
        for spots in FLOORS:
            for call in good_calls(spots):
                with self.subTest(spots=spots, call=call):
                    self.assertEqual(call_way(spots, call), way_by_hand(spots, call))

    def test_each_way_told_is_a_new_list(self):
        for spots in FLOORS:
            for call in good_calls(spots):
                call_way(spots, call).clear()
                self.assertEqual(len(call_way(spots, call)), 2 * spots)


class Beats(unittest.TestCase):
    def test_beats(self):
        for spots in FLOORS:
            for first, last in spans(spots):
                for many in MANIES:
                    self.assertEqual(beats(spots, ("ring", first, last, many)), 2 * abs(many))
                    self.assertEqual(beats(spots, ("chain", first, last, many)), 2 * abs(many))
                self.assertEqual(beats(spots, ("cast", first, last)), 2 * (last - first))
                self.assertEqual(beats(spots, ("lead", first, last)), 2 * (last - first))
            for many in range(1, 65):
                self.assertEqual(beats(spots, ("stand", many)), many)
            for spot in range(spots):
                self.assertEqual(beats(spots, ("cross", spot)), 2)
            for spot in range(spots - 1):
                for side in (0, 1):
                    self.assertEqual(beats(spots, ("pass", spot, side)), 2)
                    self.assertEqual(beats(spots, ("corner", spot, side)), 3)

    def test_a_ring_right_round_lasts_for_each_place_that_one_goes(self):
        self.assertEqual(beats(2, ("ring", 0, 1, 4)), 8)
        self.assertEqual(beats(2, ("chain", 0, 1, -64)), 128)


class TakenPlaces(unittest.TestCase):
    def test_spots_first_to_last(self):
        for word, *more in (("ring", 1), ("ring", -64), ("chain", 1), ("chain", 64), ("cast",), ("lead",)):
            self.assertEqual(taken(2, (word, 0, 1, *more)), [0, 1, 2, 3])
            self.assertEqual(taken(4, (word, 1, 2, *more)), [2, 3, 4, 5])
            self.assertEqual(taken(6, (word, 3, 5, *more)), [6, 7, 8, 9, 10, 11])

    def test_those_who_exchange(self):
        self.assertEqual(taken(3, ("cross", 2)), [4, 5])
        self.assertEqual(taken(3, ("pass", 1, 0)), [2, 4])
        self.assertEqual(taken(3, ("pass", 1, 1)), [3, 5])
        self.assertEqual(taken(3, ("corner", 1, 0)), [2, 5])
        self.assertEqual(taken(3, ("corner", 1, 1)), [3, 4])

    def test_standing_takes_none(self):
        for spots in FLOORS:
            self.assertEqual(taken(spots, ("stand", 1)), [])
            self.assertEqual(taken(spots, ("stand", 64)), [])

    def test_every_call_of_every_floor(self):
        for spots in FLOORS:
            for call in good_calls(spots):
                with self.subTest(spots=spots, call=call):
                    places = taken(spots, call)
                    if call[0] in ("ring", "chain", "cast", "lead"):
                        spots_taken = range(call[1], call[2] + 1)
                        self.assertEqual(places, [place for place in range(2 * spots) if place // 2 in spots_taken])
                    else:
                        goals = way_by_hand(spots, call)
                        self.assertEqual(places, [place for place in range(2 * spots) if goals[place] != place])

    def test_each_list_told_is_a_new_one(self):
        for call in good_calls(3):
            kept = list(taken(3, call))
            taken(3, call).append(9)
            self.assertEqual(taken(3, call), kept)


class TurnedCalls(unittest.TestCase):
    def test_rings_go_the_other_way(self):
        self.assertEqual(turned_call(2, ("ring", 0, 1, 1)), ("ring", 0, 1, -1))
        self.assertEqual(turned_call(4, ("ring", 1, 3, -64)), ("ring", 1, 3, 64))

    def test_chains_go_the_other_way_where_many_is_even(self):
        for many in MANIES:
            turned_many = many if many % 2 == 1 else -many
            self.assertEqual(turned_call(3, ("chain", 0, 2, many)), ("chain", 0, 2, turned_many))

    def test_casts_and_leads_stand_for_one_another(self):
        self.assertEqual(turned_call(4, ("cast", 1, 3)), ("lead", 1, 3))
        self.assertEqual(turned_call(4, ("lead", 1, 3)), ("cast", 1, 3))

    def test_the_others_stay(self):
        for call in (("cross", 1), ("pass", 0, 1), ("corner", 1, 0), ("stand", 5)):
            self.assertEqual(turned_call(3, call), call)

    def test_all_come_home_in_as_many_beats_over_the_same_places(self):
        for spots in FLOORS:
            for call in good_calls(spots):
                with self.subTest(spots=spots, call=call):
                    back = turned_call(spots, call)
                    self.assertIsInstance(back, tuple)
                    there, home = call_way(spots, call), call_way(spots, back)
                    self.assertEqual([home[place] for place in there], list(range(2 * spots)))
                    self.assertEqual(beats(spots, back), beats(spots, call))
                    self.assertEqual(taken(spots, back), taken(spots, call))
                    self.assertEqual(turned_call(spots, back), call)


class Bounds(Refusing):
    def test_many(self):
        for spots in FLOORS:
            for word in ("ring", "chain"):
                for many in (1, 64, -1, -64):
                    self.allowed(spots, (word, 0, spots - 1, many))
                for many in (0, 65, -65, 66, HUGE, -HUGE):
                    self.refused(spots, (word, 0, spots - 1, many))

    def test_many_of_a_stand_is_never_below_one(self):
        for spots in FLOORS:
            self.allowed(spots, ("stand", 1))
            self.allowed(spots, ("stand", 64))
            for many in (0, -1, 65, -64, -65, HUGE, -HUGE):
                self.refused(spots, ("stand", many))

    def test_first_and_last(self):
        for spots in FLOORS:
            for first, last in bad_spans(spots):
                self.refused(spots, ("ring", first, last, 1))
                self.refused(spots, ("chain", first, last, 1))
                self.refused(spots, ("cast", first, last))
                self.refused(spots, ("lead", first, last))

    def test_spots_of_exchanges(self):
        for spots in FLOORS:
            self.allowed(spots, ("cross", 0))
            self.allowed(spots, ("cross", spots - 1))
            for spot in (-1, spots, -HUGE, HUGE):
                self.refused(spots, ("cross", spot))

    def test_a_spot_whose_next_one_is_not_on_the_floor(self):
        for spots in FLOORS:
            for word in ("pass", "corner"):
                for side in (0, 1):
                    self.allowed(spots, (word, 0, side))
                    self.allowed(spots, (word, spots - 2, side))
                    for spot in (spots - 1, spots, -1, -2, HUGE, -HUGE):
                        self.refused(spots, (word, spot, side))

    def test_sides(self):
        for spots in FLOORS:
            for word in ("pass", "corner"):
                for side in (-1, 2, 3, HUGE, -HUGE):
                    self.refused(spots, (word, 0, side))

    def test_unknown_words(self):
        for word in ("", "swing", "Ring", "ring ", "rin", "rings", "0"):
            for numbers in ((), (0,), (0, 1), (0, 1, 1)):
                self.refused(3, (word, *numbers))

    def test_another_count_of_numbers(self):
        for spots in FLOORS:
            for word, count in COUNTS.items():
                for many in range(6):
                    call = (word, *(0, 1, 1, 1, 1)[:many])
                    if many != count:
                        self.refused(spots, call)
            self.refused(spots, ("stand", 1, 1))
            self.refused(spots, ("ring", 0, 1, 1) + (1,) * 196)
            self.refused(spots, ())

    def test_bad_spots_come_first(self):
        for spots in BAD_SPOTS:
            for call in good_calls(2)[::40] + [(), ("swing",), ("ring", 0, 1), ("cross", -1), ("stand", 0)]:
                for ask in ALL_FOUR:
                    with self.subTest(ask.__name__, spots=spots, call=call):
                        self.assertRaises(BadSpots, ask, spots, call)

    def test_names(self):
        self.assertEqual(call_way(call=("cross", 0), spots=2), [1, 0, 2, 3])
        self.assertEqual(taken(call=("cross", 0), spots=2), [0, 1])
        self.assertEqual(beats(call=("cross", 0), spots=2), 2)
        self.assertEqual(turned_call(call=("cross", 0), spots=2), ("cross", 0))


if __name__ == "__main__":
    unittest.main()
