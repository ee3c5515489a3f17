"""Columns by twos: rounds, courses, meetings and columns behind any count of rounds."""

import itertools
import unittest

from longways.columns import after, course, dancing, meeting, met, ring_place, standing_out, table
from longways.errors import BadNumber, Same, TooMany
from tests.floors import HUGE, one_round, pairs_by_hand

COUNTS = (0, 1, 2, 3, 4, 5, 6, 7, 10, 59, 60)
PHASES = (0, 1)
BAD_COUNTS = (61, -1, 62, -2, 200, HUGE, -HUGE)
BAD_PHASES = (-1, 2, 3, HUGE, -HUGE)
BELOW_NOUGHT = (-1, -2, -60, -HUGE)
GREAT = (HUGE, 10 ** 59, 10 ** 60 - 2, 123456789 * 10 ** 50 + 987654321)
COLUMNS = [(many, phase) for many in COUNTS for phase in PHASES]


def rounds_by_hand(many, phase, rounds):
    """The columns ahead of the first round and behind each one, and the pairs of couples that dance in each."""
    columns, danced = [list(range(many))], []
    for number in range(rounds):
        column, couples = one_round(columns[-1], (phase + number) % 2)
        columns.append(column)
        danced.append(couples)
    return columns, danced


def heading(phase, spot):
    """Which way a couple at a spot goes, in the document's words."""
    both_even = spot % 2 == 0 and phase % 2 == 0
    both_odd = spot % 2 == 1 and phase % 2 == 1
    return "down" if both_even or both_odd else "up"


def bad_spots_of(many):
    return (-1, many, many + 1, -many - 1, HUGE, -HUGE)


class Rounds(unittest.TestCase):
    def test_dancing(self):
        told = {
            (0, 0): [], (0, 1): [], (1, 0): [], (1, 1): [], (2, 0): [(0, 1)], (2, 1): [],
            (3, 0): [(0, 1)], (3, 1): [(1, 2)], (4, 0): [(0, 1), (2, 3)], (4, 1): [(1, 2)],
            (5, 0): [(0, 1), (2, 3)], (5, 1): [(1, 2), (3, 4)],
        }
        for (many, phase), pairs in told.items():
            self.assertEqual(dancing(many, phase), pairs)
        self.assertEqual(dancing(60, 0)[-1], (58, 59))
        self.assertEqual(dancing(60, 1)[-1], (57, 58))
        self.assertEqual(dancing(59, 0)[-1], (56, 57))
        self.assertEqual(dancing(59, 1)[-1], (57, 58))

    def test_standing_out(self):
        told = {
            (0, 0): [], (0, 1): [], (1, 0): [0], (1, 1): [0], (2, 0): [], (2, 1): [0, 1],
            (3, 0): [2], (3, 1): [0], (4, 0): [], (4, 1): [0, 3], (5, 0): [4], (5, 1): [0],
            (59, 0): [58], (59, 1): [0], (60, 0): [], (60, 1): [0, 59],
        }
        for (many, phase), spots in told.items():
            self.assertEqual(standing_out(many, phase), spots)

    def test_each_spot_dances_or_stands_out(self):
        for many in range(61):
            for phase in PHASES:
                pairs = dancing(many, phase)
                self.assertEqual(pairs, pairs_by_hand(many, phase))
                self.assertTrue(all(isinstance(pair, tuple) for pair in pairs))
                spots = [spot for pair in pairs for spot in pair]
                out = standing_out(many, phase)
                self.assertEqual(out, sorted(out))
                self.assertEqual(sorted(spots + out), list(range(many)))

    def test_told_lists_are_new(self):
        dancing(4, 0).clear()
        standing_out(4, 1).clear()
        self.assertEqual(dancing(4, 0), [(0, 1), (2, 3)])
        self.assertEqual(standing_out(4, 1), [0, 3])

    def test_names(self):
        self.assertEqual(dancing(phase=1, many=4), [(1, 2)])
        self.assertEqual(standing_out(phase=1, many=4), [0, 3])


class RingPlace(unittest.TestCase):
    def test_places(self):
        self.assertEqual([ring_place(3, 0, spot) for spot in range(3)], [0, 4, 2])
        self.assertEqual([ring_place(3, 1, spot) for spot in range(3)], [5, 1, 3])
        self.assertEqual([ring_place(4, 0, spot) for spot in range(4)], [0, 6, 2, 4])
        self.assertEqual([ring_place(4, 1, spot) for spot in range(4)], [7, 1, 5, 3])
        self.assertEqual([ring_place(1, phase, 0) for phase in PHASES], [0, 1])
        self.assertEqual([ring_place(60, 0, spot) for spot in (0, 1, 58, 59)], [0, 118, 58, 60])
        self.assertEqual([ring_place(60, 1, spot) for spot in (0, 1, 58, 59)], [119, 1, 61, 59])

    def test_by_where_the_couple_goes(self):
        for many, phase in COLUMNS:
            for spot in range(many):
                place = spot if heading(phase, spot) == "down" else 2 * many - 1 - spot
                self.assertEqual(ring_place(many, phase, spot), place)

    def test_behind_each_round_each_couple_is_one_place_further(self):
        for many, phase in COLUMNS:
            column = list(range(many))
            for number in range(2 * many + 1):
                now = (phase + number) % 2
                later = one_round(column, now)[0]
                for couple in column:
                    place = ring_place(many, now, column.index(couple))
                    self.assertEqual(ring_place(many, 1 - now, later.index(couple)), (place + 1) % (2 * many))
                column = later

    def test_names(self):
        self.assertEqual(ring_place(spot=1, phase=0, many=3), 4)


class Courses(unittest.TestCase):
    def test_courses(self):
        self.assertEqual(course(3, 0, 0), (1, "down"))
        self.assertEqual(course(3, 0, 0, 2), (2, "down"))
        self.assertEqual(course(3, 0, 0, 3), (2, "up"))
        self.assertEqual(course(3, 0, 0, 4), (1, "up"))
        self.assertEqual(course(3, 0, 0, 5), (0, "up"))
        self.assertEqual(course(3, 0, 0, 6), (0, "down"))
        self.assertEqual(course(3, 0, 2), (2, "up"))
        self.assertEqual(course(3, 1, 0), (0, "down"))
        self.assertEqual(course(1, 0, 0), (0, "up"))
        self.assertEqual(course(1, 1, 0), (0, "down"))
        self.assertEqual(course(60, 0, 0, 59), (59, "down"))
        self.assertEqual(course(60, 0, 59, 59), (0, "up"))

    def test_one_by_one(self):
        for many, phase in COLUMNS:
            columns, danced = rounds_by_hand(many, phase, 2 * many + 3)
            for rounds, column in enumerate(columns):
                for stands, spot in enumerate(column):
                    told = course(many, phase, spot, rounds)
                    self.assertIsInstance(told, tuple)
                    self.assertEqual(told, (stands, heading(phase + rounds, stands)))
                    if rounds == 1:
                        self.assertEqual(course(many, phase, spot), told)

    def test_each_couple_stays_or_comes_one_spot_on_as_it_goes(self):
        for many, phase in COLUMNS:
            for spot in range(many):
                stands, way = course(many, phase, spot, 0)
                self.assertEqual((stands, way), (spot, heading(phase, spot)))
                on = spot + 1 if way == "down" else spot - 1
                goal = spot if spot in standing_out(many, phase) else on
                self.assertEqual(course(many, phase, spot)[0], goal)

    def test_counts_of_sixty_figures(self):
        self.assertEqual(course(3, 0, 0, HUGE), (2, "up"))
        self.assertEqual(course(5, 1, 2, 10 ** 59), (2, "up"))
        for many, phase in COLUMNS:
            for spot in range(many):
                for rounds in GREAT:
                    self.assertEqual(course(many, phase, spot, rounds), course(many, phase, spot, rounds % (2 * many)))

    def test_names(self):
        self.assertEqual(course(rounds=3, spot=0, phase=0, many=3), (2, "up"))
        self.assertEqual(course(spot=0, phase=0, many=3), (1, "down"))


class After(unittest.TestCase):
    def test_columns(self):
        self.assertEqual(after(["ann", "bea", "cat"]), ["bea", "ann", "cat"])
        self.assertEqual(after(["ann", "bea", "cat"], 1), ["ann", "cat", "bea"])
        self.assertEqual(after(["ann", "bea", "cat"], 0, 2), ["bea", "cat", "ann"])
        self.assertEqual(after(["ann", "bea", "cat"], 0, 3), ["cat", "bea", "ann"])
        self.assertEqual(after([4, 5, 6, 7], 0, 2), [5, 7, 4, 6])
        self.assertEqual(after([], 0, 5), [])
        self.assertEqual(after(["ann"], 1, 5), ["ann"])
        self.assertEqual(after([1, 2], 1, 1), [1, 2])

    def test_one_by_one(self):
        for many, phase in COLUMNS:
            columns, danced = rounds_by_hand(many, phase, 2 * many + 3)
            for rounds, column in enumerate(columns):
                self.assertEqual(after(list(range(many)), phase, rounds), column)

    def test_each_round_behind_the_one_ahead_of_it(self):
        for many, phase in COLUMNS:
            column = list(range(many))
            for rounds in range(2 * many + 1):
                further = after(after(column, phase, rounds), (phase + rounds) % 2)
                self.assertEqual(after(column, phase, rounds + 1), further)

    def test_nought_rounds_n_rounds_and_twice_n_rounds(self):
        for many in range(61):
            for phase in PHASES:
                column = [f"c{at}" for at in range(many)]
                self.assertEqual(after(column, phase, 0), column)
                self.assertEqual(after(column, phase, many), column[::-1])
                self.assertEqual(after(column, phase, 2 * many), column)

    def test_counts_of_sixty_figures(self):
        self.assertEqual(after(["ann", "bea", "cat"], 0, HUGE), ["cat", "bea", "ann"])
        for many, phase in COLUMNS[2:]:
            columns, danced = rounds_by_hand(many, phase, 2 * many)
            for rounds in GREAT:
                self.assertEqual(after(list(range(many)), phase, rounds), columns[rounds % (2 * many)])
        self.assertEqual(after([], 1, HUGE), [])

    def test_texts_and_numbers_some_alike(self):
        column = ["ann", 7, "ann", -7, "", 7, "7", HUGE]
        for phase in PHASES:
            columns, danced = rounds_by_hand(8, phase, 16)
            for rounds, order in enumerate(columns):
                told = after(column, phase, rounds)
                self.assertEqual(told, [column[at] for at in order])
        self.assertEqual(column, ["ann", 7, "ann", -7, "", 7, "7", HUGE])

    def test_what_is_handed_in_stays_and_what_is_told_is_new(self):
        for column in ([], ["ann"], ["ann", "bea", "cat"]):
            for rounds in (0, 1, 3, 6):
                kept = list(column)
                told = after(column, 0, rounds)
                again = list(told)
                told.append("zoe")
                self.assertEqual(column, kept)
                self.assertEqual(after(column, 0, rounds), again)

    def test_names(self):
        self.assertEqual(after(rounds=1, phase=1, column=[1, 2, 3]), [1, 3, 2])
        self.assertEqual(after(phase=1, column=[1, 2, 3]), [1, 3, 2])
        self.assertEqual(after(rounds=2, column=[1, 2, 3]), [2, 3, 1])
        self.assertEqual(after(column=[1, 2, 3]), [2, 1, 3])

    def test_refusals_in_their_order(self):
        for many in (61, 62, 200):
            for phase in (0, 1, -1, 2, HUGE):
                for rounds in (0, 1, -1, HUGE):
                    self.assertRaises(TooMany, after, list(range(many)), phase, rounds)
            self.assertRaises(TooMany, after, ["ann"] * many)
        for many in (0, 1, 2, 60):
            column = list(range(many))
            for phase in BAD_PHASES:
                self.assertRaises(BadNumber, after, column, phase, 1)
                self.assertRaises(BadNumber, after, column, phase, -1)
            for rounds in BELOW_NOUGHT:
                self.assertRaises(BadNumber, after, column, 0, rounds)
                self.assertRaises(BadNumber, after, column, 1, rounds)
            self.assertEqual(column, list(range(many)))


class Meetings(unittest.TestCase):
    def test_meetings(self):
        self.assertEqual(meeting(2, 0, 0, 1, 1), 0)
        self.assertEqual(meeting(2, 1, 0, 1, 1), 1)
        self.assertEqual(meeting(2, 0, 0, 1, 2), 2)
        self.assertEqual(meeting(3, 0, 0, 1, 1), 0)
        self.assertEqual(meeting(3, 0, 0, 2, 1), 1)
        self.assertEqual(meeting(3, 0, 1, 2, 1), 2)
        self.assertEqual(meeting(3, 0, 2, 1, 2), 5)
        self.assertEqual(meeting(3, 0, 2, 1, HUGE), 3 * HUGE - 1)
        self.assertEqual(meeting(60, 0, 0, 59, 1), 29)

    def test_met(self):
        self.assertEqual([met(3, 0, 1, 2, rounds) for rounds in range(8)], [0, 0, 0, 1, 1, 1, 2, 2])
        self.assertEqual([met(2, 0, 0, 1, rounds) for rounds in range(6)], [0, 1, 1, 2, 2, 3])
        self.assertEqual([met(2, 1, 1, 0, rounds) for rounds in range(6)], [0, 0, 1, 1, 2, 2])
        self.assertEqual(met(3, 0, 1, 2, 3 * 10 ** 58), 10 ** 58)
        self.assertEqual(met(3, 0, 0, 1, HUGE), HUGE // 3)
        self.assertEqual(met(7, 0, 0, 1, 7 * 10 ** 58 + 1), 10 ** 58 + 1)

    def test_by_single_rounds(self):
        for many, phase in COLUMNS[:18]:
            columns, danced = rounds_by_hand(many, phase, 4 * many)
            for one, other in itertools.permutations(range(many), 2):
                numbers = [number for number, couples in enumerate(danced) if {one, other} in couples]
                self.assertEqual([meeting(many, phase, one, other, at) for at in (1, 2, 3, 4)], numbers)
                for rounds in range(4 * many + 1):
                    count = sum(number < rounds for number in numbers)
                    self.assertEqual(met(many, phase, one, other, rounds), count)

    def test_by_single_rounds_in_long_columns(self):
        for many, phase in COLUMNS[18:]:
            columns, danced = rounds_by_hand(many, phase, 2 * many)
            first = {}
            for number, couples in enumerate(danced):
                for pair in couples:
                    first.setdefault(tuple(sorted(pair)), []).append(number)
            self.assertEqual(len(first), many * (many - 1) // 2)
            for (one, other), numbers in first.items():
                self.assertEqual([meeting(many, phase, one, other, at) for at in (1, 2)], numbers)
                self.assertEqual(met(many, phase, other, one, numbers[0]), 0)
                self.assertEqual(met(many, phase, other, one, numbers[0] + 1), 1)
                self.assertEqual(met(many, phase, other, one, numbers[1]), 1)
                self.assertEqual(met(many, phase, other, one, numbers[1] + 1), 2)

    def test_each_two_meet_once_in_any_n_rounds(self):
        for many, phase in COLUMNS[4:18]:
            for one, other in itertools.combinations(range(many), 2):
                for rounds in range(3 * many):
                    more = met(many, phase, one, other, rounds + many) - met(many, phase, one, other, rounds)
                    self.assertEqual(more, 1)

    def test_great_numbers(self):
        for many, phase in COLUMNS[4:]:
            for one, other in ((0, 1), (many - 1, 0), (many - 2, many - 1)):
                first = meeting(many, phase, one, other, 1)
                for number in GREAT:
                    self.assertEqual(meeting(many, phase, one, other, number), first + many * (number - 1))
                for rounds in GREAT:
                    left_over = 1 if first < rounds % many else 0
                    self.assertEqual(met(many, phase, one, other, rounds), rounds // many + left_over)

    def test_names(self):
        self.assertEqual(meeting(number=2, other=1, one=2, phase=0, many=3), 5)
        self.assertEqual(met(rounds=7, other=1, one=2, phase=0, many=3), 2)


class Tables(unittest.TestCase):
    def test_tables(self):
        self.assertEqual(table(0, 0, 5), [])
        self.assertEqual(table(1, 1, 5), [[0]])
        self.assertEqual(table(2, 0, 3), [[0, 2], [2, 0]])
        self.assertEqual(table(3, 0, 0), [[0, 0, 0], [0, 0, 0], [0, 0, 0]])
        self.assertEqual(table(3, 0, 1), [[0, 1, 0], [1, 0, 0], [0, 0, 0]])
        self.assertEqual(table(3, 0, 2), [[0, 1, 1], [1, 0, 0], [1, 0, 0]])
        self.assertEqual(table(3, 1, 4), [[0, 1, 1], [1, 0, 2], [1, 2, 0]])

    def test_by_single_rounds(self):
        for many, phase in COLUMNS:
            columns, danced = rounds_by_hand(many, phase, 2 * many + 2)
            counts = [[0] * many for spot in range(many)]
            for rounds in range(2 * many + 3):
                if many < 20 or rounds % 31 == 0:
                    self.assertEqual(table(many, phase, rounds), counts)
                if rounds < len(danced):
                    for one, other in map(sorted, danced[rounds]):
                        counts[one][other] += 1
                        counts[other][one] += 1

    def test_counts_of_sixty_figures(self):
        self.assertEqual(table(3, 0, 3 * 10 ** 58 + 1), [
            [0, 10 ** 58 + 1, 10 ** 58], [10 ** 58 + 1, 0, 10 ** 58], [10 ** 58, 10 ** 58, 0],
        ])
        for many, phase in COLUMNS[2:]:
            for rounds in GREAT:
                rest = table(many, phase, rounds % many)
                due = [[0 if one == other else count + rounds // many for other, count in enumerate(row)]
                       for one, row in enumerate(rest)]
                self.assertEqual(table(many, phase, rounds), due)

    def test_told_lists_are_new(self):
        told = table(3, 0, 1)
        told[0][1] = 9
        self.assertEqual(told[1:], [[1, 0, 0], [0, 0, 0]])
        told.clear()
        self.assertEqual(table(3, 0, 1), [[0, 1, 0], [1, 0, 0], [0, 0, 0]])

    def test_names(self):
        self.assertEqual(table(rounds=1, phase=0, many=3), [[0, 1, 0], [1, 0, 0], [0, 0, 0]])


class Refusals(unittest.TestCase):
    def test_too_many_comes_first(self):
        for many in BAD_COUNTS:
            for phase in (0, 1, -1, 2, HUGE):
                self.assertRaises(TooMany, dancing, many, phase)
                self.assertRaises(TooMany, standing_out, many, phase)
                for spot in (0, -1, many, HUGE):
                    self.assertRaises(TooMany, ring_place, many, phase, spot)
                    for count in (1, -1, HUGE):
                        self.assertRaises(TooMany, course, many, phase, spot, count)
                        self.assertRaises(TooMany, meeting, many, phase, spot, 0, count)
                        self.assertRaises(TooMany, met, many, phase, spot, 0, count)
                for rounds in (1, -1):
                    self.assertRaises(TooMany, table, many, phase, rounds)

    def test_counts_that_are_not_too_many(self):
        for many in (0, 1, 59, 60):
            for phase in PHASES:
                dancing(many, phase)
                standing_out(many, phase)
                table(many, phase, 1)
                after([0] * many, phase)

    def test_bad_number_of_a_phase(self):
        for many in (0, 1, 2, 60):
            for phase in BAD_PHASES:
                self.assertRaises(BadNumber, dancing, many, phase)
                self.assertRaises(BadNumber, standing_out, many, phase)
                self.assertRaises(BadNumber, table, many, phase, 1)
                for one, other, count in itertools.product((0, 1, -1, HUGE), (0, 1), (1, -1)):
                    self.assertRaises(BadNumber, ring_place, many, phase, one)
                    self.assertRaises(BadNumber, course, many, phase, one, count)
                    self.assertRaises(BadNumber, meeting, many, phase, one, other, count)
                    self.assertRaises(BadNumber, met, many, phase, one, other, count)

    def test_bad_number_of_a_spot_comes_ahead_of_same(self):
        for many, phase in COLUMNS:
            for spot in bad_spots_of(many):
                self.assertRaises(BadNumber, ring_place, many, phase, spot)
                for count in (0, 1, -1, HUGE):
                    self.assertRaises(BadNumber, course, many, phase, spot, count)
                    for one, other in ((spot, spot), (0, spot), (spot, 0)):
                        self.assertRaises(BadNumber, meeting, many, phase, one, other, count)
                        self.assertRaises(BadNumber, met, many, phase, one, other, count)

    def test_first_and_last_spots(self):
        for many, phase in COLUMNS[2:]:
            for spot in (0, many - 1):
                self.assertEqual(course(many, phase, spot, 2 * many), (spot, heading(phase, spot)))
                self.assertEqual(ring_place(many, phase, spot) in (spot, 2 * many - 1 - spot), True)
            if many > 1:
                self.assertEqual(met(many, phase, 0, many - 1, many), 1)
                self.assertIn(meeting(many, phase, many - 1, 0, 1), range(many))

    def test_same_comes_ahead_of_bad_number_of_rounds_or_number(self):
        for many, phase in COLUMNS[2:]:
            for spot in (0, many - 1):
                for count in (0, 1, 2, -1, HUGE, -HUGE):
                    self.assertRaises(Same, meeting, many, phase, spot, spot, count)
                    self.assertRaises(Same, met, many, phase, spot, spot, count)

    def test_bad_number_of_rounds(self):
        for many, phase in COLUMNS:
            for rounds in BELOW_NOUGHT:
                self.assertRaises(BadNumber, table, many, phase, rounds)
                if many > 0:
                    self.assertRaises(BadNumber, course, many, phase, 0, rounds)
                if many > 1:
                    self.assertRaises(BadNumber, met, many, phase, 0, many - 1, rounds)

    def test_bad_number_below_one(self):
        for many, phase in COLUMNS[4:]:
            for number in (0, -1, -2, -HUGE):
                self.assertRaises(BadNumber, meeting, many, phase, 0, many - 1, number)


if __name__ == "__main__":
    unittest.main()
