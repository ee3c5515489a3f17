"""The deeds of a hall: what they do, their bounds, and their refusals in their order."""

import itertools
import unittest

from longways.errors import (
    BadBar, BadCall, BadFigure, BadKind, BadName, BadNumber, BadSpots, Clash, Few, Fixed, Full, Known, Last, NoCouple,
    NoEntry, NoFigure, NoSet, NotDanced, NothingLeft, NotOn, Same, Taken, WrongSize,
)
from longways.hall import Hall
from tests.floors import (
    BAD_NAMES, BAD_SPOTS, CROSSED, HEY, HUGE, ON, PARTED, STAYS, HallCase, any_halls, hall_of, told,
)

TWELVE = ["a" + letter for letter in "abcdefghijkl"]
NO_NUMBERS = (0, -1, -2, -HUGE)
# A hall in which nothing has room any more, so that Full is due wherever it may be.
FULL = (
    ("write", "on", 2, ON), ("write", "parted", 2, PARTED), ("write", "stays", 2, STAYS),
    ("write", "crossed", 2, CROSSED), ("write", "three", 3, HEY), ("write", "six", 6, [[("cast", 0, 5)]]),
    *(("write", name, 2, []) for name in ("fa", "fb", "fc", "fd", "fe", "ff")),
    ("form", "line", "twos", TWELVE), ("form", "solo", "twos", ["sa"]), ("form", "pair", "twos", ["pa", "pb"]),
    ("form", "ring", "whole", ["ra", "rb", "rc"]), ("form", "duo", "whole", ["da", "db"]),
    *(("form", "x" + letter, "twos", ["x" + letter]) for letter in "abc"),
    ("dance", "pair", "on", 2), ("join", "pair", "pc"), ("swap", "pair", "pa", "pb"), ("leave", "pair", "pc"),
    ("dance", "pair", "on", 1), ("dance", "ring", "three", 4), ("dance", "line", "on", 5),
)
HOP = ("hop", 1)


def full_hall():
    """The full hall, with two deeds that could be done again."""
    hall = hall_of(*FULL, ("close", "xa"), ("erase", "fa"))
    hall.back()
    hall.back()
    return hall


class Written(HallCase):
    def test_write(self):
        hall = Hall()
        self.assertIsNone(hall.write("on", 2, ON))
        self.assertIsNone(hall.write("hey", 3, HEY))
        self.assertIsNone(hall.write("rest", 6, []))
        self.assertEqual(hall.figures(), ["on", "hey", "rest"])
        self.assertEqual(hall.figure("on"), (2, [[("cast", 0, 1)]]))
        self.assertEqual(hall.figure("hey"), (3, HEY))
        self.assertEqual(hall.figure("rest"), (6, []))
        self.assertEqual(hall.sets(), [])

    def test_alter_keeps_spots_and_place(self):
        hall = hall_of(("write", "a", 2, ON), ("write", "b", 3, HEY), ("write", "c", 2, STAYS))
        self.assertIsNone(hall.alter("b", [[("cross", 2)]]))
        self.assertEqual(hall.figures(), ["a", "b", "c"])
        self.assertEqual(hall.figure("b"), (3, [[("cross", 2)]]))
        hall.alter("a", [])
        self.assertEqual(hall.figure("a"), (2, []))
        self.assertEqual(hall.figures(), ["a", "b", "c"])

    def test_erase_and_write_anew(self):
        hall = hall_of(("write", "a", 2, ON), ("write", "b", 3, HEY), ("write", "c", 2, STAYS))
        self.assertIsNone(hall.erase("a"))
        self.assertEqual(hall.figures(), ["b", "c"])
        self.assert_refused(NoFigure, hall, hall.figure, "a")
        hall.write("a", 4, [])
        self.assertEqual(hall.figures(), ["b", "c", "a"])
        self.assertEqual(hall.figure("a"), (4, []))

    def test_form(self):
        hall = Hall()
        self.assertIsNone(hall.form("line", "twos", ["ann", "bea"]))
        self.assertIsNone(hall.form("ring", "whole", ["cat", "dot"]))
        self.assertEqual(hall.sets(), ["line", "ring"])
        self.assertEqual([hall.kind("line"), hall.kind("ring")], ["twos", "whole"])
        self.assertEqual([hall.rounds("line"), hall.rounds("ring")], [0, 0])
        self.assertEqual([hall.log("line"), hall.log("ring")], [[], []])
        self.assertEqual(
            hall.standing("line"), [("ann", "left"), ("ann", "right"), ("bea", "left"), ("bea", "right")]
        )
        self.assertEqual(
            hall.standing("ring"), [("cat", "left"), ("cat", "right"), ("dot", "left"), ("dot", "right")]
        )
        self.assertEqual(hall.column("line"), ["ann", "bea"])

    def test_close_and_form_anew(self):
        hall = hall_of(
            ("write", "on", 2, ON), ("form", "a", "twos", ["ann"]), ("form", "b", "twos", ["bea"]),
            ("dance", "a", "on", 3),
        )
        self.assertIsNone(hall.close("a"))
        self.assertEqual(hall.sets(), ["b"])
        self.assert_refused(NoSet, hall, hall.kind, "a")
        hall.form("a", "whole", ["ann", "cat"])
        self.assertEqual(hall.sets(), ["b", "a"])
        self.assertEqual((hall.kind("a"), hall.rounds("a"), hall.log("a")), ("whole", 0, []))

    def test_each_deed_tells_nothing(self):
        hall = hall_of(("write", "on", 2, ON), ("form", "a", "twos", ["ann", "bea"]))
        self.assertIsNone(hall.dance("a", "on"))
        self.assertIsNone(hall.join("a", "cat"))
        self.assertIsNone(hall.leave("a", "ann"))
        self.assertIsNone(hall.swap("a", "bea", "cat"))
        self.assertIsNone(hall.late("a", 0, "on"))
        self.assertIsNone(hall.scratch("a", 0))
        self.assertIsNone(hall.close("a"))
        self.assertIsNone(hall.erase("on"))


class BookRefusals(HallCase):
    def test_write_in_its_order(self):
        hall = full_hall()
        for name in BAD_NAMES:
            self.assert_deed_refused(BadName, hall, "write", name, 9, [[]] * 17)
        for name in ("on", "three", "ff"):
            self.assert_deed_refused(Known, hall, "write", name, 9, [[]] * 17)
        for spots in BAD_SPOTS:
            self.assert_deed_refused(BadSpots, hall, "write", "new", spots, [[]] * 17)
        for spots in (2, 6):
            self.assert_deed_refused(BadFigure, hall, "write", "new", spots, [[]] * 17)
            self.assert_deed_refused(BadFigure, hall, "write", "new", spots, [[("stand", 1)]] * 200)
            self.assert_deed_refused(Full, hall, "write", "new", spots, [])
            self.assert_deed_refused(Full, hall, "write", "new", spots, [[("stand", 1)]] * 16)

    def test_bars_in_their_order(self):
        for word, more in (("write", ("new", 3)), ("alter", ("three",))):
            hall = full_hall()
            refuse = self.assert_deed_refused
            refuse(BadFigure, hall, word, *more, [[], [HOP]] * 8 + [[]])
            refuse(BadBar, hall, word, *more, [[], [HOP]])
            refuse(BadBar, hall, word, *more, [[HOP] * 5, [HOP]])
            refuse(BadBar, hall, word, *more, [[("stand", 1)] * 5])
            refuse(BadCall, hall, word, *more, [[HOP], []])
            refuse(BadCall, hall, word, *more, [[("cross", 0), ("cross", 0), HOP], []])
            refuse(BadCall, hall, word, *more, [[("cross", 3)]])
            refuse(BadCall, hall, word, *more, [[("stand", HUGE)]])
            refuse(BadCall, hall, word, *more, [[("ring", 0, 1, -HUGE)]])
            refuse(Clash, hall, word, *more, [[("cross", 2), ("pass", 1, 1), ("cast", 0, 2)], [], [HOP]], place=3)
            refuse(Clash, hall, word, *more, [[("cross", 2), ("pass", 1, 1)], [("cross", 0), ("cross", 0)]], place=5)
            refuse(Clash, hall, word, *more, [[("cross", 0)], [("cast", 1, 2), ("cross", 1)]], place=2)

    def test_alter(self):
        hall = full_hall()
        for name in BAD_NAMES + ("none", "line", "aa"):
            self.assert_deed_refused(NoFigure, hall, "alter", name, [[]] * 17)
        self.assert_deed_refused(BadCall, hall, "alter", "on", [[("cross", 2)]])
        self.assert_deed_refused(BadCall, hall, "alter", "three", [[("cross", 3)]])
        hall.alter("three", [[("cross", 2)]])
        hall.alter("on", [[("stand", 64)]] * 16)
        self.assertEqual(hall.figure("on"), (2, [[("stand", 64)]] * 16))

    def test_erase(self):
        hall = full_hall()
        for name in BAD_NAMES + ("none", "line", "aa"):
            self.assert_deed_refused(NoFigure, hall, "erase", name)

    def test_twelve_figures(self):
        hall = Hall()
        for count, letter in enumerate("abcdefghijkl"):
            self.assertEqual(len(hall.figures()), count)
            hall.write(letter, 2, ON)
        self.assertEqual(hall.figures(), list("abcdefghijkl"))
        self.assert_deed_refused(Full, hall, "write", "m", 2, ON)
        hall.alter("l", STAYS)
        hall.erase("c")
        hall.write("m", 2, ON)
        self.assertEqual(hall.figures(), list("abdefghijklm"))
        self.assert_deed_refused(Full, hall, "write", "c", 2, ON)


class SetRefusals(HallCase):
    def test_form_in_its_order(self):
        hall = full_hall()
        refuse = self.assert_deed_refused
        for name in BAD_NAMES:
            refuse(BadName, hall, "form", name, "threes", [])
        for name in ("line", "ring", "xc"):
            refuse(Known, hall, "form", name, "threes", [])
        for kind in ("threes", "", "Twos", "twos ", "two", "wholes", "WHOLE", "\n"):
            refuse(BadKind, hall, "form", "new", kind, [])
            refuse(BadKind, hall, "form", "new", kind, ["A", "aa", "aa"] * 60)
        refuse(Few, hall, "form", "new", "twos", [])
        for couples in ([], [""], ["A"], ["aa"], ["ok"]):
            refuse(Few, hall, "form", "new", "whole", couples)
        for kind, most in (("twos", 12), ("whole", 6)):
            refuse(Full, hall, "form", "new", kind, ["A", "aa"] * most)
            refuse(Full, hall, "form", "new", kind, ["A", "aa"])
            refuse(Full, hall, "form", "new", kind, ["ok", "fine"])

    def test_form_where_there_is_room(self):
        hall = full_hall()
        hall.close("xa")
        refuse = self.assert_deed_refused
        for kind, most in (("twos", 12), ("whole", 6)):
            refuse(Full, hall, "form", "new", kind, ["A"] * (most + 1))
            refuse(Full, hall, "form", "new", kind, ["aa"] * 200)
            for name in BAD_NAMES:
                refuse(BadName, hall, "form", "new", kind, ["aa", "aa", name])
                refuse(BadName, hall, "form", "new", kind, [name, "ok"])
            for couple in ("aa", "al", "sa", "pa", "ra", "rc", "db", "xb"):
                refuse(Taken, hall, "form", "new", kind, [couple, "ok"])
                refuse(Taken, hall, "form", "new", kind, ["ok", couple])
            refuse(Taken, hall, "form", "new", kind, ["ok", "ok"])
            refuse(Taken, hall, "form", "new", kind, ["ok", "fine", "good", "ok"])
        hall.form("new", "twos", ["ok", "fine", "xa", "pc"])
        self.assertEqual(hall.column("new"), ["ok", "fine", "xa", "pc"])

    def test_counts_of_couples(self):
        for kind, fewest, most in (("twos", 1, 12), ("whole", 2, 6)):
            for many in range(201 if kind == "twos" else 20):
                hall = Hall()
                couples = ["c" + one + other for one, other in itertools.product("abcdefghijklmno", repeat=2)][:many]
                error = Few if many < fewest else Full
                if fewest <= many <= most:
                    hall.form("a", kind, couples)
                    self.assertEqual([couple for couple, side in hall.standing("a")][::2], couples)
                else:
                    self.assert_deed_refused(error, hall, "form", "a", kind, couples)

    def test_eight_sets(self):
        hall = Hall()
        for count, letter in enumerate("abcdefgh"):
            self.assertEqual(len(hall), count)
            hall.form(letter, "twos", [letter])
        self.assertEqual(hall.sets(), list("abcdefgh"))
        self.assert_deed_refused(Full, hall, "form", "i", "twos", ["i"])
        hall.close("d")
        hall.form("i", "twos", ["d"])
        self.assertEqual(hall.sets(), list("abcefghi"))

    def test_dance_in_its_order(self):
        hall = full_hall()
        refuse = self.assert_deed_refused
        for name in BAD_NAMES + ("none", "on", "aa"):
            refuse(NoSet, hall, "dance", name, "none", 0)
        for figure in BAD_NAMES + ("none", "line", "aa"):
            refuse(NoFigure, hall, "dance", "line", figure, 0)
            refuse(NoFigure, hall, "dance", "ring", figure, 0)
        for name, figure in (
            ("line", "three"), ("solo", "six"), ("pair", "three"), ("ring", "on"), ("ring", "parted"), ("ring", "six"),
            ("duo", "three"), ("duo", "six"),
        ):
            refuse(WrongSize, hall, "dance", name, figure, 0)
            refuse(WrongSize, hall, "dance", name, figure, 1)
        for name in ("line", "solo", "pair"):
            for word in ("parted", "stays", "crossed"):
                for many in (0, 1, -HUGE, HUGE):
                    refuse(NotOn, hall, "dance", name, word, many, word=word)
            refuse(NotOn, hall, "dance", name, "fa", 1, word="stays")
        for many in NO_NUMBERS:
            refuse(BadNumber, hall, "dance", "line", "on", many)
            refuse(BadNumber, hall, "dance", "ring", "three", many)

    def test_whole_sets_dance_also_what_does_not_lead_on(self):
        hall = full_hall()
        for figure in ("on", "parted", "stays", "crossed", "fa"):
            for many in NO_NUMBERS:
                self.assert_deed_refused(BadNumber, hall, "dance", "duo", figure, many)
            hall.dance("duo", figure, 1)
            self.assert_by_hand(hall)

    def test_join_in_its_order(self):
        hall = full_hall()
        refuse = self.assert_deed_refused
        for name in BAD_NAMES + ("none", "on", "aa"):
            refuse(NoSet, hall, "join", name, "")
        for couple in ("", "aa", "ra", "ok"):
            refuse(Fixed, hall, "join", "ring", couple)
        for couple in BAD_NAMES:
            refuse(BadName, hall, "join", "line", couple)
            refuse(BadName, hall, "join", "solo", couple)
        for couple in ("aa", "al", "sa", "pb", "ra", "da"):
            refuse(Taken, hall, "join", "line", couple)
            refuse(Taken, hall, "join", "solo", couple)
        for couple in ("ok", "pc", "line", "on"):
            refuse(Full, hall, "join", "line", couple)

    def test_joins_up_to_twelve(self):
        hall = hall_of(("form", "a", "twos", TWELVE[:1]))
        for couple in TWELVE[1:]:
            hall.join("a", couple)
        self.assertEqual(hall.column("a"), TWELVE)
        self.assert_deed_refused(Full, hall, "join", "a", "ok")
        hall.leave("a", "ac")
        hall.join("a", "ok")
        self.assertEqual(hall.column("a"), [couple for couple in TWELVE if couple != "ac"] + ["ok"])
        self.assert_deed_refused(Full, hall, "join", "a", "ac")
        hall.back()
        hall.back()
        self.assert_deed_refused(Taken, hall, "join", "a", "ac")
        self.assert_deed_refused(Full, hall, "join", "a", "ok")

    def test_leave_in_its_order(self):
        hall = full_hall()
        refuse = self.assert_deed_refused
        for name in BAD_NAMES + ("none", "on", "aa"):
            refuse(NoSet, hall, "leave", name, "")
        for couple in ("", "aa", "ra", "ok"):
            refuse(Fixed, hall, "leave", "ring", couple)
        for couple in BAD_NAMES + ("ok", "aa", "pc", "ra", "solo"):
            refuse(NoCouple, hall, "leave", "solo", couple)
            refuse(NoCouple, hall, "leave", "pair", couple)
        refuse(Last, hall, "leave", "solo", "sa")
        hall.leave("pair", "pa")
        refuse(Last, hall, "leave", "pair", "pb")
        refuse(NoCouple, hall, "leave", "pair", "pa")
        hall.join("pair", "pa")
        hall.leave("pair", "pb")
        refuse(Last, hall, "leave", "pair", "pa")

    def test_swap_in_its_order(self):
        hall = full_hall()
        refuse = self.assert_deed_refused
        for name in BAD_NAMES + ("none", "on", "aa"):
            refuse(NoSet, hall, "swap", name, "", "")
        for one, other in (("", ""), ("ra", "ra"), ("ra", "rb"), ("ok", "ra")):
            refuse(Fixed, hall, "swap", "ring", one, other)
        for couple in BAD_NAMES + ("ok", "aa", "pc", "ra"):
            refuse(NoCouple, hall, "swap", "pair", couple, couple)
            refuse(NoCouple, hall, "swap", "pair", "pa", couple)
            refuse(NoCouple, hall, "swap", "pair", couple, "pb")
        for name, couple in (("pair", "pa"), ("pair", "pb"), ("solo", "sa"), ("line", "al")):
            refuse(Same, hall, "swap", name, couple, couple)

    def test_late_in_its_order(self):
        hall = full_hall()
        refuse = self.assert_deed_refused
        for name in BAD_NAMES + ("none", "on", "aa"):
            refuse(NoSet, hall, "late", name, -1, "none", 0)
        for name, length in (("pair", 5), ("ring", 1), ("solo", 0)):
            for at in (-1, length + 1, length + 2, -length - 1, -2, HUGE, -HUGE):
                refuse(NoEntry, hall, "late", name, at, "none", 0)
            for at in range(length + 1):
                for figure in ("", "none", "line"):
                    refuse(NoFigure, hall, "late", name, at, figure, 0)
                refuse(WrongSize, hall, "late", name, at, "six", 0)
        for at in range(6):
            for word in ("parted", "stays", "crossed"):
                refuse(NotOn, hall, "late", "pair", at, word, 0, word=word)
            for many in NO_NUMBERS:
                refuse(BadNumber, hall, "late", "pair", at, "on", many)
        refuse(WrongSize, hall, "late", "ring", 1, "parted", 0)
        refuse(BadNumber, hall, "late", "ring", 1, "three", 0)
        refuse(BadNumber, hall, "late", "duo", 0, "parted", 0)

    def test_scratch_in_its_order(self):
        hall = full_hall()
        refuse = self.assert_deed_refused
        for name in BAD_NAMES + ("none", "on", "aa"):
            refuse(NoSet, hall, "scratch", name, -1)
        for name, length in (("pair", 5), ("ring", 1), ("solo", 0)):
            for at in (-1, length, length + 1, -length, -length - 1, HUGE, -HUGE):
                if at != 0 or length == 0:
                    refuse(NoEntry, hall, "scratch", name, at)
        for at in (1, 2, 3):
            refuse(NotDanced, hall, "scratch", "pair", at)
        hall.scratch("pair", 4)
        hall.scratch("pair", 0)
        hall.scratch("ring", 0)
        self.assertEqual(hall.log("pair"), [("join", "pc"), ("swap", "pa", "pb"), ("leave", "pc")])
        for at in (0, 1, 2):
            refuse(NotDanced, hall, "scratch", "pair", at)
        refuse(NoEntry, hall, "scratch", "pair", 3)
        refuse(NoEntry, hall, "scratch", "ring", 0)

    def test_close(self):
        hall = full_hall()
        for name in BAD_NAMES + ("none", "on", "aa"):
            self.assert_deed_refused(NoSet, hall, "close", name)


class Names(HallCase):
    def test_names_of_one_to_eight_small_letters(self):
        for name in ("a", "z", "az", "abcdefgh", "stuvwxyz", "ijklmnop", "qr", "zzzzzzzz"):
            hall = hall_of(("write", name, 2, ON), ("form", name, "twos", [name, "ok"]), ("leave", name, name))
            hall.join(name, name)
            hall.dance(name, name, 1)
            self.assertEqual((hall.figures(), hall.sets(), hall.column(name)), ([name], [name], [name, "ok"]))
            self.assertEqual(hall.log(name), [("leave", name), ("join", name), ("dance", name, 1)])

    def test_bad_names_in_an_empty_hall(self):
        hall = hall_of(("form", "a", "twos", ["ok"]))
        for name in BAD_NAMES:
            self.assert_deed_refused(BadName, hall, "write", name, 2, ON)
            self.assert_deed_refused(BadName, hall, "form", name, "twos", ["ann"])
            self.assert_deed_refused(BadName, hall, "form", "b", "twos", [name])
            self.assert_deed_refused(BadName, hall, "form", "b", "whole", ["ann", name])
            self.assert_deed_refused(BadName, hall, "join", "a", name)

    def test_a_figure_a_set_and_a_couple_of_one_name(self):
        hall = hall_of(("write", "a", 2, ON), ("form", "a", "twos", ["a", "b"]), ("form", "b", "whole", ["c", "d"]))
        hall.dance("a", "a", 2)
        self.assertEqual(hall.column("a"), ["b", "a"])
        hall.erase("a")
        self.assertEqual((hall.figures(), hall.sets(), hall.column("a")), ([], ["a", "b"], ["b", "a"]))
        hall.write("a", 2, ON)
        hall.close("a")
        self.assertEqual((hall.figures(), hall.sets()), (["a"], ["b"]))


class Free(HallCase):
    def test_a_couple_that_left_is_free(self):
        hall = hall_of(("form", "a", "twos", ["ann", "bea"]), ("form", "b", "twos", ["cat"]))
        self.assert_deed_refused(Taken, hall, "join", "b", "ann")
        hall.leave("a", "ann")
        hall.join("b", "ann")
        self.assertEqual((hall.column("a"), hall.column("b")), (["bea"], ["cat", "ann"]))
        self.assert_deed_refused(Taken, hall, "join", "a", "ann")
        self.assert_deed_refused(Taken, hall, "form", "c", "twos", ["ann"])
        hall.leave("b", "ann")
        hall.form("c", "whole", ["ann", "dot"])
        self.assert_deed_refused(Taken, hall, "join", "a", "ann")

    def test_couples_of_a_closed_set_are_free(self):
        hall = hall_of(
            ("form", "a", "twos", ["ann", "bea"]), ("join", "a", "cat"), ("form", "b", "whole", ["dot", "eve"]),
            ("close", "a"),
        )
        hall.form("c", "whole", ["cat", "bea", "ann"])
        hall.close("b")
        hall.form("a", "twos", ["eve", "dot"])
        self.assert_by_hand(hall)

    def test_what_is_taken_back_frees_and_takes(self):
        hall = hall_of(("form", "a", "twos", ["ann", "bea"]), ("leave", "a", "ann"))
        hall.back()
        self.assert_deed_refused(Taken, hall, "form", "b", "twos", ["ann"])
        hall.again()
        hall.form("b", "twos", ["ann"])
        hall.close("b")
        hall.back()
        self.assert_deed_refused(Taken, hall, "join", "a", "ann")
        hall.back()
        hall.join("a", "ann")
        self.assertEqual(hall.column("a"), ["bea", "ann"])


class Questions(HallCase):
    def test_refusals(self):
        hall = full_hall()
        for name in BAD_NAMES + ("none", "line", "aa"):
            self.assert_refused(NoFigure, hall, hall.figure, name)
        for name in BAD_NAMES + ("none", "on", "aa"):
            for ask in (
                hall.kind, hall.rounds, hall.log, hall.standing, hall.column, hall.next_pairs, hall.waiting,
            ):
                self.assert_refused(NoSet, hall, ask, name)
            self.assert_refused(NoSet, hall, hall.met, name, "", "")
        for ask in (hall.column, hall.next_pairs, hall.waiting):
            self.assert_refused(Fixed, hall, ask, "ring")
            self.assert_refused(Fixed, hall, ask, "duo")
        for one, other in (("", ""), ("ra", "rb"), ("ra", "ra")):
            self.assert_refused(Fixed, hall, hall.met, "ring", one, other)

    def test_met(self):
        hall = full_hall()
        for couple in ("", "ok", "aa", "ra", "pair"):
            self.assert_refused(NoCouple, hall, hall.met, "pair", couple, couple)
            self.assert_refused(NoCouple, hall, hall.met, "pair", couple, "pa")
            self.assert_refused(NoCouple, hall, hall.met, "pair", "pc", couple)
        for couple in ("pa", "pb", "pc"):
            self.assert_refused(Same, hall, hall.met, "pair", couple, couple)
        self.assert_refused(Same, hall, hall.met, "solo", "sa", "sa")
        self.assertEqual(hall.met("pair", "pa", "pc"), 0)

    def test_nothing_left(self):
        hall = Hall()
        self.assert_refused(NothingLeft, hall, hall.back)
        self.assert_refused(NothingLeft, hall, hall.again)

    def test_questions_change_nothing(self):
        hall = full_hall()
        undone = hall.undone()
        self.assertEqual(told(hall), told(hall))
        self.assertEqual(hall.undone(), undone)
        self.assertEqual(hall.again(), ("close", "xa"))


class Any(HallCase):
    def test_rows_of_any_deeds(self):
        for hall, deed, done in any_halls(range(6), 80):
            with self.subTest(deeds=hall.deeds(), deed=deed):
                self.assert_by_hand(hall)


if __name__ == "__main__":
    unittest.main()
