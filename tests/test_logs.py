"""Logs of sets: where everybody stands behind them, also mended ones, and who danced with whom."""

import itertools
import unittest

from longways.errors import NoCouple, NotOn, WrongSize
from longways.hall import Hall
from longways.sets import is_name
from tests.floors import BAD_NAMES, CROSSED, HEY, HUGE, ON, STAYS, HallCase, do, hall_of, one_round, walked

COUPLES = ["ann", "bea", "cat", "dot", "eve", "fay", "gil", "hal", "ida", "joe", "kit", "lou"]
GREAT = (HUGE, 10 ** 59, 10 ** 60 - 2, 123456789 * 10 ** 50 + 987654321)
LEAD = [[("lead", 0, 1)]]
SQUARE = [[("ring", 0, 3, 1)], [("pass", 1, 0), ("pass", 1, 1), ("cross", 3)], [("corner", 0, 1)]]
WHOLE_FIGURES = {
    2: [[("ring", 0, 1, 1)], [("cross", 0)]], 3: HEY, 4: SQUARE,
    5: [[("cast", 0, 2), ("chain", 3, 4, 1)], [("lead", 1, 4)]],
    6: [[("chain", 0, 5, 5)], [("cast", 2, 4), ("cross", 0)], [("ring", 0, 2, -1), ("ring", 3, 5, 2)]],
}


def line_of(many, *deeds):
    """A hall with a set by twos of so many couples, and deeds behind that."""
    return hall_of(("write", "on", 2, ON), ("form", "a", "twos", COUPLES[:many]), *deeds)


def on_their_sides(column):
    return [(couple, side) for couple in column for side in ("left", "right")]


class ByTwos(HallCase):
    def test_three_couples(self):
        hall = line_of(3)
        rows = (
            (["ann", "bea", "cat"], [("ann", "bea")], ["cat"]),
            (["bea", "ann", "cat"], [("ann", "cat")], ["bea"]),
            (["bea", "cat", "ann"], [("bea", "cat")], ["ann"]),
            (["cat", "bea", "ann"], [("bea", "ann")], ["cat"]),
            (["cat", "ann", "bea"], [("cat", "ann")], ["bea"]),
            (["ann", "cat", "bea"], [("cat", "bea")], ["ann"]),
            (["ann", "bea", "cat"], [("ann", "bea")], ["cat"]),
        )
        for number, (column, pairs, waiting) in enumerate(rows):
            self.assertEqual(hall.rounds("a"), number)
            self.assertEqual(hall.column("a"), column)
            self.assertEqual(hall.standing("a"), on_their_sides(column))
            self.assertEqual(hall.next_pairs("a"), pairs)
            self.assertEqual(hall.waiting("a"), waiting)
            hall.dance("a", "on")

    def test_four_couples(self):
        hall = line_of(4)
        self.assertEqual(hall.next_pairs("a"), [("ann", "bea"), ("cat", "dot")])
        self.assertEqual(hall.waiting("a"), [])
        hall.dance("a", "on")
        self.assertEqual(hall.column("a"), ["bea", "ann", "dot", "cat"])
        self.assertEqual(hall.next_pairs("a"), [("ann", "dot")])
        self.assertEqual(hall.waiting("a"), ["bea", "cat"])

    def test_one_couple(self):
        hall = line_of(1)
        for many in (1, 2, 3, HUGE):
            hall.dance("a", "on", many)
            self.assertEqual((hall.column("a"), hall.next_pairs("a"), hall.waiting("a")), (["ann"], [], ["ann"]))
            self.assertEqual(hall.standing("a"), [("ann", "left"), ("ann", "right")])
        self.assertEqual(hall.rounds("a"), 6 + HUGE)

    def test_two_couples(self):
        hall = line_of(2, ("dance", "a", "on", 1))
        self.assertEqual((hall.column("a"), hall.next_pairs("a")), (["bea", "ann"], []))
        self.assertEqual(hall.waiting("a"), ["bea", "ann"])
        hall.dance("a", "on", 1)
        self.assertEqual((hall.column("a"), hall.next_pairs("a")), (["bea", "ann"], [("bea", "ann")]))
        self.assertEqual(hall.waiting("a"), [])

    def test_counts_against_single_rounds(self):
        for many in range(1, 13):
            single, column, phase = line_of(many), COUPLES[:many], 0
            for count in range(1, 3 * many + 3):
                single.dance("a", "on")
                column = one_round(column, phase)[0]
                phase = 1 - phase
                at_once = line_of(many, ("dance", "a", "on", count))
                for hall in (single, at_once):
                    self.assertEqual((hall.column("a"), hall.rounds("a")), (column, count))
                    self.assertEqual(hall.standing("a"), on_their_sides(column))
            self.assert_by_hand(single)

    def test_great_counts(self):
        for many in range(1, 13):
            for great in GREAT:
                hall = line_of(many, ("dance", "a", "on", great))
                few = line_of(many, ("dance", "a", "on", great % (2 * many) + 2 * many))
                self.assertEqual(hall.standing("a"), few.standing("a"))
                self.assertEqual(hall.next_pairs("a"), few.next_pairs("a"))
                self.assertEqual(hall.waiting("a"), few.waiting("a"))
                self.assertEqual(hall.rounds("a"), great)
                hall.dance("a", "on", great)
                self.assertEqual(hall.rounds("a"), 2 * great)
                self.assert_by_hand(hall)

    def test_any_figure_that_leads_on_does_the_same(self):
        hall = line_of(5, ("write", "lead", 2, LEAD), ("write", "long", 2, ON + [[("stand", 5)]] + LEAD + LEAD))
        hall.dance("a", "lead")
        self.assertEqual(hall.column("a"), ["bea", "ann", "dot", "cat", "eve"])
        hall.dance("a", "long")
        self.assertEqual(hall.column("a"), ["bea", "dot", "ann", "eve", "cat"])
        self.assertEqual(hall.log("a"), [("dance", "lead", 1), ("dance", "long", 1)])

    def test_the_phase_stays_where_couples_come_and_go(self):
        hall = line_of(3, ("dance", "a", "on", 1))
        self.assertEqual(hall.column("a"), ["bea", "ann", "cat"])
        hall.join("a", "dot")
        self.assertEqual(hall.column("a"), ["bea", "ann", "cat", "dot"])
        self.assertEqual((hall.next_pairs("a"), hall.waiting("a")), ([("ann", "cat")], ["bea", "dot"]))
        hall.leave("a", "bea")
        self.assertEqual(hall.column("a"), ["ann", "cat", "dot"])
        self.assertEqual((hall.next_pairs("a"), hall.waiting("a")), ([("cat", "dot")], ["ann"]))
        hall.swap("a", "dot", "ann")
        self.assertEqual(hall.column("a"), ["dot", "cat", "ann"])
        self.assertEqual((hall.next_pairs("a"), hall.waiting("a")), ([("cat", "ann")], ["dot"]))
        hall.dance("a", "on")
        self.assertEqual(hall.column("a"), ["dot", "ann", "cat"])
        self.assertEqual((hall.next_pairs("a"), hall.waiting("a")), ([("dot", "ann")], ["cat"]))
        self.assertEqual(hall.rounds("a"), 2)
        self.assertEqual(
            hall.log("a"),
            [("dance", "on", 1), ("join", "dot"), ("leave", "bea"), ("swap", "dot", "ann"), ("dance", "on", 1)],
        )

    def test_changes_at_both_phases(self):
        changes = [
            ("join", "a", "zoe"), *(("leave", "a", couple) for couple in COUPLES[:4]),
            *(("swap", "a", one, other) for one, other in itertools.permutations(COUPLES[:4], 2)),
        ]
        for before, change, behind in itertools.product((0, 1, 2, 3, HUGE, HUGE - 1), changes, (1, 4, HUGE)):
            ahead = [("dance", "a", "on", before)] if before else []
            hall = line_of(4, *ahead, change, ("dance", "a", "on", behind))
            self.assert_by_hand(hall)


class Whole(HallCase):
    def test_everybody_goes_alone(self):
        hall = hall_of(("write", "turn", 2, [[("ring", 0, 1, 1)]]), ("form", "b", "whole", ["ann", "bea"]))
        rows = (
            [("ann", "left"), ("ann", "right"), ("bea", "left"), ("bea", "right")],
            [("bea", "left"), ("ann", "left"), ("bea", "right"), ("ann", "right")],
            [("bea", "right"), ("bea", "left"), ("ann", "right"), ("ann", "left")],
            [("ann", "right"), ("bea", "right"), ("ann", "left"), ("bea", "left")],
            [("ann", "left"), ("ann", "right"), ("bea", "left"), ("bea", "right")],
        )
        for number, standing in enumerate(rows):
            self.assertEqual((hall.standing("b"), hall.rounds("b")), (standing, number))
            hall.dance("b", "turn")

    def test_against_the_calls_walked(self):
        for spots, bars in WHOLE_FIGURES.items():
            couples = COUPLES[:spots]
            hall = hall_of(("write", "fig", spots, bars), ("form", "b", "whole", couples))
            standing = on_their_sides(couples)
            for number in range(1, 40):
                hall.dance("b", "fig")
                standing = walked(standing, bars)
                self.assertEqual((hall.standing("b"), hall.rounds("b")), (standing, number))
                at_once = hall_of(
                    ("write", "fig", spots, bars), ("form", "b", "whole", couples), ("dance", "b", "fig", number),
                )
                self.assertEqual(at_once.standing("b"), standing)

    def test_great_counts(self):
        for spots, bars in WHOLE_FIGURES.items():
            hall = hall_of(
                ("write", "fig", spots, bars), ("write", "lead", spots, [[("lead", 0, spots - 1)]]),
                ("form", "b", "whole", COUPLES[:spots]),
            )
            for great in GREAT:
                hall.dance("b", "fig", great)
                hall.dance("b", "lead", great - 1)
                hall.late("b", 1, "lead", great)
                self.assert_by_hand(hall)
            self.assertEqual(hall.rounds("b"), sum(3 * great - 1 for great in GREAT))


class Mended(HallCase):
    def test_late_at_each_place(self):
        for at, many in itertools.product(range(5), (1, 2, 3, HUGE)):
            hall = line_of(
                3, ("dance", "a", "on", 2), ("join", "a", "dot"), ("dance", "a", "on", 1), ("swap", "a", "dot", "ann"),
            )
            log = hall.log("a")
            hall.late("a", at, "on", many)
            self.assertEqual(hall.log("a"), log[:at] + [("dance", "on", many)] + log[at:])
            self.assertEqual(hall.rounds("a"), 3 + many)
            self.assert_by_hand(hall)
            hall.scratch("a", at)
            self.assertEqual(hall.log("a"), log)
            self.assert_by_hand(hall)

    def test_late_ahead_of_a_join(self):
        hall = line_of(2, ("join", "a", "cat"), ("dance", "a", "on", 1))
        self.assertEqual(hall.column("a"), ["bea", "ann", "cat"])
        hall.late("a", 0, "on", 1)
        self.assertEqual(hall.log("a"), [("dance", "on", 1), ("join", "cat"), ("dance", "on", 1)])
        self.assertEqual(hall.column("a"), ["bea", "cat", "ann"])
        hall.scratch("a", 2)
        self.assertEqual(hall.column("a"), ["bea", "ann", "cat"])
        self.assertEqual((hall.next_pairs("a"), hall.rounds("a")), ([("ann", "cat")], 1))
        hall.scratch("a", 0)
        self.assertEqual((hall.column("a"), hall.rounds("a")), (["ann", "bea", "cat"], 0))

    def test_late_in_a_whole_set(self):
        hall = hall_of(
            ("write", "cross", 2, [[("cross", 0)]]), ("write", "turn", 2, [[("ring", 0, 1, 1)]]),
            ("form", "b", "whole", ["ann", "bea"]), ("dance", "b", "turn", 1),
        )
        hall.late("b", 0, "cross")
        self.assertEqual(hall.log("b"), [("dance", "cross", 1), ("dance", "turn", 1)])
        self.assertEqual(
            hall.standing("b"), [("bea", "left"), ("ann", "right"), ("bea", "right"), ("ann", "left")]
        )
        hall.late("b", 2, "cross", 3)
        self.assertEqual(
            hall.standing("b"), [("ann", "right"), ("bea", "left"), ("bea", "right"), ("ann", "left")]
        )
        hall.scratch("b", 1)
        self.assertEqual(hall.log("b"), [("dance", "cross", 1), ("dance", "cross", 3)])
        self.assertEqual(hall.standing("b"), on_their_sides(["ann", "bea"]))
        self.assertEqual(hall.rounds("b"), 4)

    def test_late_goes_by_the_figure_as_it_is_when_it_is_told(self):
        hall = hall_of(
            ("write", "fig", 2, [[("cross", 0)]]), ("form", "b", "whole", ["ann", "bea"]), ("dance", "b", "fig", 1),
            ("alter", "fig", [[("cross", 1)]]), ("late", "b", 0, "fig", 1),
        )
        crossed = [("ann", "right"), ("ann", "left"), ("bea", "right"), ("bea", "left")]
        self.assertEqual(hall.standing("b"), crossed)
        self.assertEqual(hall.log("b"), [("dance", "fig", 1), ("dance", "fig", 1)])
        hall.scratch("b", 0)
        self.assertEqual(hall.standing("b"), crossed[:2] + [("bea", "left"), ("bea", "right")])
        hall.back()
        hall.scratch("b", 1)
        self.assertEqual(hall.standing("b"), [("ann", "left"), ("ann", "right")] + crossed[2:])

    def test_figures_altered_erased_and_written_anew(self):
        hall = hall_of(
            ("write", "fig", 3, HEY), ("form", "b", "whole", ["ann", "bea", "cat"]), ("dance", "b", "fig", 1),
        )
        for deed in (
            ("alter", "fig", [[("cast", 0, 2)]]), ("dance", "b", "fig", 2), ("erase", "fig"),
            ("write", "other", 3, [[("cross", 1)]]), ("dance", "b", "other", 5), ("write", "fig", 3, [[("cross", 2)]]),
            ("dance", "b", "fig", 3), ("late", "b", 1, "fig", 1), ("erase", "fig"), ("scratch", "b", 0),
            ("write", "fig", 2, ON), ("erase", "other"), ("scratch", "b", 2), ("alter", "fig", STAYS),
        ):
            do(hall, deed)
            self.assert_by_hand(hall)
        self.assertEqual(hall.log("b"), [("dance", "fig", 1), ("dance", "fig", 2), ("dance", "fig", 3)])
        self.assert_deed_refused(WrongSize, hall, "dance", "b", "fig", 1)

    def test_by_twos_a_figure_that_leads_on_no_more(self):
        hall = line_of(3, ("dance", "a", "on", 2))
        hall.alter("on", STAYS)
        self.assertEqual(hall.column("a"), ["bea", "cat", "ann"])
        self.assert_deed_refused(NotOn, hall, "dance", "a", "on", 1, word="stays")
        self.assert_deed_refused(NotOn, hall, "late", "a", 0, "on", 1, word="stays")
        hall.alter("on", CROSSED)
        self.assert_deed_refused(NotOn, hall, "dance", "a", "on", 1, word="crossed")
        hall.alter("on", LEAD)
        hall.dance("a", "on", 1)
        hall.erase("on")
        self.assertEqual(hall.column("a"), ["cat", "bea", "ann"])
        self.assertEqual(hall.log("a"), [("dance", "on", 2), ("dance", "on", 1)])

    def test_logs_of_two_sets_are_their_own(self):
        hall = line_of(3, ("form", "b", "twos", COUPLES[3:6]), ("dance", "a", "on", 1), ("dance", "b", "on", 2))
        hall.late("a", 1, "on", 5)
        hall.scratch("b", 0)
        self.assertEqual((hall.log("a"), hall.log("b")), ([("dance", "on", 1), ("dance", "on", 5)], []))
        self.assertEqual((hall.column("a"), hall.column("b")), (["ann", "bea", "cat"], ["dot", "eve", "fay"]))

    def test_a_set_formed_anew_has_a_new_log(self):
        hall = line_of(3, ("dance", "a", "on", 1), ("close", "a"), ("form", "a", "twos", ["cat", "bea"]))
        self.assertEqual((hall.log("a"), hall.rounds("a"), hall.column("a")), ([], 0, ["cat", "bea"]))
        self.assert_refused(NoCouple, hall, hall.met, "a", "ann", "bea")
        self.assertEqual(hall.met("a", "bea", "cat"), 0)


class Met(HallCase):
    def test_each_two_once_in_as_many_rounds_as_couples(self):
        for many in range(2, 13):
            hall = line_of(many, ("dance", "a", "on", many))
            for one, other in itertools.permutations(COUPLES[:many], 2):
                self.assertEqual(hall.met("a", one, other), 1)
            hall.dance("a", "on", many * 10 ** 58)
            for one, other in itertools.permutations(COUPLES[:many], 2):
                self.assertEqual(hall.met("a", one, other), 10 ** 58 + 1)

    def test_couples_that_left_and_came_in(self):
        hall = line_of(2, ("dance", "a", "on", 1), ("join", "a", "cat"), ("leave", "a", "ann"), ("dance", "a", "on", 1))
        self.assertEqual(hall.met("a", "ann", "bea"), 1)
        self.assertEqual(hall.met("a", "bea", "ann"), 1)
        self.assertEqual(hall.met("a", "ann", "cat"), 0)
        self.assertEqual(hall.met("a", "bea", "cat"), 0)
        hall.dance("a", "on", 1)
        self.assertEqual((hall.met("a", "bea", "cat"), hall.met("a", "ann", "cat")), (1, 0))
        hall.join("a", "ann")
        hall.dance("a", "on", 1)
        self.assertEqual(hall.column("a"), ["cat", "ann", "bea"])
        self.assertEqual((hall.met("a", "bea", "ann"), hall.met("a", "ann", "cat")), (2, 0))
        hall.dance("a", "on", 3 * 10 ** 59)
        self.assertEqual(hall.met("a", "ann", "cat"), 10 ** 59)
        self.assertEqual(hall.met("a", "ann", "bea"), 10 ** 59 + 2)

    def test_never_in_the_set(self):
        hall = line_of(2, ("form", "b", "twos", ["dot"]), ("join", "a", "cat"))
        for one, other in (("ann", "dot"), ("dot", "ann"), ("zoe", "ann"), ("cat", "zoe"), ("zoe", "zoe"), ("a", "on")):
            self.assert_refused(NoCouple, hall, hall.met, "a", one, other)
        self.assertEqual(hall.met("a", "ann", "cat"), 0)
        hall.back()
        self.assert_refused(NoCouple, hall, hall.met, "a", "ann", "cat")
        hall.again()
        self.assertEqual(hall.met("a", "ann", "cat"), 0)

    def test_late_and_struck_entries_count_as_they_stand(self):
        hall = line_of(3, ("dance", "a", "on", 1))
        self.assertEqual([hall.met("a", *two) for two in itertools.combinations(COUPLES[:3], 2)], [1, 0, 0])
        hall.late("a", 0, "on", 2)
        self.assertEqual([hall.met("a", *two) for two in itertools.combinations(COUPLES[:3], 2)], [1, 1, 1])
        hall.late("a", 1, "on", HUGE)
        self.assertEqual(
            [hall.met("a", *two) for two in itertools.combinations(COUPLES[:3], 2)], [HUGE // 3 + 1] * 3
        )
        hall.scratch("a", 0)
        hall.scratch("a", 0)
        self.assertEqual([hall.met("a", *two) for two in itertools.combinations(COUPLES[:3], 2)], [1, 0, 0])

    def test_behind_great_counts_with_changes_between(self):
        hall = line_of(5)
        for great in GREAT:
            for deed in (
                ("dance", "a", "on", great), ("swap", "a", "ann", "dot"), ("dance", "a", "on", great - 1),
                ("leave", "a", "bea"), ("dance", "a", "on", great), ("join", "a", "fay"), ("join", "a", "bea"),
                ("late", "a", 0, "on", great), ("leave", "a", "fay"),
            ):
                do(hall, deed)
                self.assert_by_hand(hall)


class LongLogs(HallCase):
    def test_by_twos(self):
        hall, inside = line_of(6), COUPLES[:6]
        for number in range(60):
            couple = inside.pop(number % 6)
            inside.append(couple)
            for deed in (
                ("dance", "a", "on", GREAT[number % 4] - number), ("leave", "a", couple),
                ("late", "a", number, "on", number + 1), ("swap", "a", inside[0], inside[3]), ("join", "a", couple),
            ):
                do(hall, deed)
        self.assertEqual(len(hall.log("a")), 300)
        self.assert_by_hand(hall)
        for number in range(20):
            at = max(at for at, entry in enumerate(hall.log("a")) if entry[0] == "dance" and at % 7 < 5)
            hall.scratch("a", at)
        self.assert_by_hand(hall)

    def test_whole(self):
        hall = hall_of(("write", "fig", 4, SQUARE), ("form", "b", "whole", COUPLES[:4]))
        for number in range(150):
            hall.dance("b", "fig", GREAT[number % 4] - number)
            hall.late("b", number // 2, "fig", number + 1)
            hall.alter("fig", SQUARE[number % 3:])
        self.assertEqual(len(hall.log("b")), 300)
        self.assert_by_hand(hall)


class Names(unittest.TestCase):
    def test_is_name(self):
        for name in ("a", "z", "abcdefgh", "zzzzzzzz"):
            self.assertTrue(is_name(name))
        for name in BAD_NAMES:
            self.assertFalse(is_name(name))

    def test_hall_starts_empty(self):
        self.assertEqual((Hall().figures(), Hall().sets(), Hall().deeds(), Hall().undone()), ([], [], [], []))


if __name__ == "__main__":
    unittest.main()
