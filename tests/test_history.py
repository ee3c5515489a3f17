"""Taking back, doing again, twins, what a hall says of itself, and that nothing handed in or told is kept."""

import unittest

from longways.errors import Known, NoFigure, NothingLeft, NotOn
from longways.hall import Hall
from tests.floors import HEY, HUGE, ON, OPENING, STAYS, HallCase, any_halls, do, hall_of, told

# Each kind of deed, each where it matters what stood there before.
ROW = (
    ("write", "on", 2, ON), ("write", "hey", 3, HEY), ("write", "rest", 2, []), ("alter", "hey", [[("cast", 0, 2)]]),
    ("form", "line", "twos", ["ann", "bea", "cat"]), ("form", "ring", "whole", ["dot", "eve", "fay"]),
    ("form", "solo", "twos", ["gil"]), ("dance", "line", "on", 3), ("dance", "ring", "hey", HUGE),
    ("join", "line", "hal"), ("leave", "line", "ann"), ("swap", "line", "cat", "hal"), ("late", "line", 0, "on", 2),
    ("late", "ring", 1, "hey", 4), ("late", "line", 3, "on", HUGE), ("scratch", "line", 1), ("erase", "hey"),
    ("alter", "on", STAYS), ("join", "line", "ann"), ("close", "ring"), ("erase", "on"), ("leave", "line", "bea"),
    ("write", "hey", 2, ON), ("form", "ring", "twos", ["bea", "eve"]), ("dance", "ring", "hey", 1), ("close", "line"),
    ("scratch", "ring", 0), ("close", "solo"), ("close", "ring"),
)


def frozen(thing):
    """A thing with tuples in the place of all lists."""
    return tuple(map(frozen, thing)) if isinstance(thing, (list, tuple)) else thing


def all_told(hall):
    return told(hall), hall.undone()


class BackAndAgain(HallCase):
    def test_each_kind_of_deed_back_and_again(self):
        hall, passed = Hall(), [told(Hall())]
        for number, deed in enumerate(ROW):
            do(hall, deed)
            passed.append(told(hall))
            self.assertEqual(hall.back(), frozen(deed))
            self.assertEqual(all_told(hall), (passed[number], [frozen(deed)]))
            self.assertEqual(hall.again(), frozen(deed))
            self.assertEqual(all_told(hall), (passed[number + 1], []))
        self.assertEqual(hall.deeds(), list(frozen(ROW)))

    def test_all_back_and_all_again(self):
        hall, passed = Hall(), [told(Hall())]
        for deed in ROW:
            do(hall, deed)
            passed.append(told(hall))
        for turn in range(2):
            for number in range(len(ROW) - 1, -1, -1):
                self.assertEqual(hall.back(), frozen(ROW[number]))
                self.assertEqual(all_told(hall), (passed[number], list(frozen(ROW[number:]))))
                self.assert_by_hand(hall)
            self.assert_refused(NothingLeft, hall, hall.back)
            for number, deed in enumerate(ROW):
                self.assertEqual(hall.again(), frozen(deed))
                self.assertEqual(all_told(hall), (passed[number + 1], list(frozen(ROW[number + 1:]))))
            self.assert_refused(NothingLeft, hall, hall.again)

    def test_nothing_left(self):
        hall = Hall()
        self.assert_refused(NothingLeft, hall, hall.back)
        self.assert_refused(NothingLeft, hall, hall.again)
        hall.write("on", 2, ON)
        self.assert_refused(NothingLeft, hall, hall.again)
        hall.back()
        self.assert_refused(NothingLeft, hall, hall.back)
        hall.again()
        self.assert_refused(NothingLeft, hall, hall.again)

    def test_a_new_deed_lets_go_of_what_could_be_done_again(self):
        for deed in ROW:
            hall = hall_of(*ROW[:ROW.index(deed)], deed)
            hall.back()
            self.assertEqual(hall.undone(), [frozen(deed)])
            do(hall, deed)
            self.assertEqual(hall.undone(), [])
            self.assert_refused(NothingLeft, hall, hall.again)

    def test_neither_a_refused_deed_nor_a_question_does(self):
        hall = hall_of(
            ("write", "on", 2, ON), ("write", "stays", 2, STAYS), ("form", "a", "twos", ["ann"]), ("erase", "on"),
        )
        hall.back()
        self.assert_deed_refused(Known, hall, "write", "on", 2, ON)
        self.assert_deed_refused(NoFigure, hall, "dance", "a", "none", 1)
        self.assert_deed_refused(NotOn, hall, "dance", "a", "stays", 1)
        told(hall)
        self.assertEqual(hall.undone(), [("erase", "on")])
        self.assertEqual(hall.again(), ("erase", "on"))
        self.assertEqual(hall.figures(), ["stays"])

    def test_the_order_of_names_comes_back(self):
        hall = Hall()
        for letter in "abc":
            hall.write(letter, 2, ON)
            hall.form(letter, "twos", [letter])
        hall.erase("a")
        hall.close("b")
        hall.write("a", 3, [])
        hall.form("b", "twos", ["b"])
        self.assertEqual((hall.figures(), hall.sets()), (["b", "c", "a"], ["a", "c", "b"]))
        for number in range(4):
            hall.back()
        self.assertEqual((hall.figures(), hall.sets()), (["a", "b", "c"], ["a", "b", "c"]))
        for number in range(4):
            hall.again()
        self.assertEqual((hall.figures(), hall.sets()), (["b", "c", "a"], ["a", "c", "b"]))

    def test_an_alter_taken_back(self):
        hall = hall_of(
            ("write", "fig", 2, [[("cross", 0)]]), ("form", "b", "whole", ["ann", "bea"]),
            ("alter", "fig", [[("cross", 1)]]), ("dance", "b", "fig", 1),
        )
        self.assertEqual(hall.standing("b")[2:], [("bea", "right"), ("bea", "left")])
        hall.back()
        hall.back()
        hall.dance("b", "fig")
        self.assertEqual(hall.standing("b")[:2], [("ann", "right"), ("ann", "left")])
        self.assertEqual(hall.standing("b")[2:], [("bea", "left"), ("bea", "right")])

    def test_long_rows(self):
        hall = hall_of(("write", "on", 2, ON), ("form", "a", "twos", ["ann", "bea", "cat"]))
        for number in range(500):
            hall.dance("a", "on", HUGE - number)
            hall.late("a", number, "on", number + 1)
            hall.swap("a", "ann", "cat")
        column, log, deeds = hall.column("a"), hall.log("a"), hall.deeds()
        self.assertEqual((len(log), len(deeds)), (1500, 1502))
        for number in range(1502):
            hall.back()
        self.assertEqual(hall, Hall())
        self.assertEqual(hall.undone(), deeds)
        for number in range(1502):
            hall.again()
        self.assertEqual((hall.column("a"), hall.log("a"), hall.deeds()), (column, log, deeds))

    def test_any_deeds(self):
        for hall, deed, done in any_halls(range(20, 24), 60):
            before = all_told(hall)
            many = len(hall.deeds()) // 3
            deeds = [hall.back() for number in range(many)]
            self.assert_by_hand(hall)
            self.assertEqual(hall.undone(), deeds[::-1])
            self.assertEqual([hall.again() for number in range(many)], deeds[::-1])
            self.assertEqual(all_told(hall), before)


class Twins(HallCase):
    def test_a_twin_stands_alike(self):
        for length in range(len(ROW) + 1):
            for undone in {0, 1, length // 2, length}:
                hall = hall_of(*ROW[:length])
                for number in range(min(undone, length)):
                    hall.back()
                before = all_told(hall)
                twin = hall.twin()
                self.assertIsInstance(twin, Hall)
                self.assertIsNot(twin, hall)
                self.assertEqual(all_told(twin), before)
                self.assertEqual(all_told(hall), before)
                self.assertEqual(twin, hall)

    def test_each_goes_its_own_way(self):
        hall = hall_of(*ROW[:15])
        hall.back()
        before = all_told(hall)
        twin = hall.twin()
        twin.again()
        twin.scratch("line", 0)
        twin.dance("ring", "hey", 3)
        twin.close("solo")
        twin.alter("on", STAYS)
        self.assertEqual(all_told(hall), before)
        self.assert_by_hand(twin)
        later = all_told(twin)
        hall.dance("line", "on", 1)
        hall.join("line", "zoe")
        hall.erase("hey")
        for number in range(len(hall.deeds())):
            hall.back()
        self.assertEqual(all_told(twin), later)
        other = twin.twin()
        for number in range(len(twin.deeds())):
            twin.back()
        self.assertEqual(all_told(other), later)
        self.assert_by_hand(other)

    def test_a_twin_takes_back_and_does_again(self):
        hall = hall_of(*ROW)
        for number in range(7):
            hall.back()
        twin = hall.twin()
        self.assertEqual([twin.back() for number in range(5)], [frozen(deed) for deed in ROW[-8:-13:-1]])
        self.assertEqual([twin.again() for number in range(12)], [frozen(deed) for deed in ROW[-12:]])
        self.assertEqual(all_told(twin), all_told(hall_of(*ROW)))
        self.assertEqual(len(hall.undone()), 7)

    def test_a_twin_of_an_empty_hall(self):
        hall = Hall()
        twin = hall.twin()
        twin.write("on", 2, ON)
        self.assertEqual((hall.figures(), twin.figures()), ([], ["on"]))
        self.assert_refused(NothingLeft, hall, hall.back)


class SaidOfItself(HallCase):
    def test_equal_halls(self):
        one, other = hall_of(*OPENING), hall_of(*OPENING)
        self.assertTrue(one == other)
        self.assertFalse(one != other)
        self.assertTrue(Hall() == Hall())
        self.assertTrue(one == one)
        one.dance("line", "on")
        self.assertTrue(one != other)
        self.assertFalse(one == other)
        other.dance("line", "on", 1)
        self.assertTrue(one == other)
        one.dance("line", "on", 2)
        other.dance("line", "on", 3)
        self.assertTrue(one != other)

    def test_deeds_taken_back_do_not_count(self):
        one, other = hall_of(*OPENING), hall_of(*OPENING[:3])
        self.assertTrue(one != other)
        for number in range(3):
            one.back()
        self.assertTrue(one == other)
        self.assertNotEqual(one.undone(), other.undone())
        one.again()
        self.assertTrue(one != other)

    def test_alike_by_other_deeds_is_not_equal(self):
        one = hall_of(("write", "a", 2, ON), ("write", "b", 2, ON))
        self.assertTrue(one != hall_of(("write", "b", 2, ON), ("write", "a", 2, ON)))
        self.assertTrue(Hall() != hall_of(("write", "b", 2, ON), ("erase", "b")))
        self.assertTrue(one != hall_of(("write", "a", 2, ON)))
        self.assertTrue(one != hall_of(("write", "a", 2, ON), ("write", "b", 2, STAYS)))
        self.assertTrue(one == hall_of(("write", "a", 2, tuple(map(tuple, ON))), ("write", "b", 2, ON)))

    def test_nothing_else_is_equal(self):
        hall = hall_of(*OPENING)
        for other in (0, 3, "", str(hall), repr(hall), [], hall.deeds(), (), None, {}, True, False, HUGE):
            for one in (hall, Hall()):
                self.assertIs(one == other, False)
                self.assertIs(other == one, False)
                self.assertIs(one != other, True)
                self.assertIs(other != one, True)

    def test_len_and_truth(self):
        hall = Hall()
        self.assertEqual((len(hall), bool(hall)), (0, False))
        hall.write("on", 2, ON)
        self.assertEqual((len(hall), bool(hall)), (0, False))
        hall.form("a", "twos", ["ann"])
        self.assertEqual((len(hall), bool(hall)), (1, True))
        hall.form("b", "whole", ["bea", "cat"])
        self.assertEqual((len(hall), bool(hall)), (2, True))
        hall.close("a")
        self.assertEqual((len(hall), bool(hall)), (1, True))
        hall.close("b")
        self.assertEqual((len(hall), bool(hall)), (0, False))

    def test_str_and_repr(self):
        hall = Hall()
        self.assertEqual((str(hall), repr(hall)), ("", "Hall(0 figures, 0 sets)"))
        hall.form("line", "twos", ["ann"])
        self.assertEqual((str(hall), repr(hall)), ("line (twos)", "Hall(0 figures, 1 sets)"))
        hall.form("ring", "whole", ["bea", "cat"])
        hall.write("on", 2, ON)
        self.assertEqual((str(hall), repr(hall)), ("line (twos), ring (whole)", "Hall(1 figures, 2 sets)"))
        hall.form("a", "twos", ["dot"])
        hall.write("stays", 2, STAYS)
        self.assertEqual((str(hall), repr(hall)), ("line (twos), ring (whole), a (twos)", "Hall(2 figures, 3 sets)"))
        self.assertEqual(f"{hall}", str(hall))


class NothingKept(HallCase):
    def test_lists_handed_in_changed_behind_the_call(self):
        bars, other_bars = [[("cast", 0, 1)], [("stand", 1)]], [[("lead", 0, 1)]]
        couples, four = ["ann", "bea", "cat"], ["dot", "eve"]
        hall = hall_of(
            ("write", "on", 2, bars), ("alter", "on", other_bars), ("form", "a", "twos", couples),
            ("form", "b", "whole", four),
        )
        before = all_told(hall)
        bars[0].append(("cross", 0))
        bars.clear()
        other_bars[0][0] = ("cross", 0)
        couples[0] = "zoe"
        couples.reverse()
        four.clear()
        self.assertEqual(all_told(hall), before)
        hall.dance("a", "on", 1)
        self.assertEqual(hall.column("a"), ["bea", "ann", "cat"])
        self.assertEqual(hall.figure("on"), (2, [[("lead", 0, 1)]]))
        self.assertEqual(hall.deeds()[0], ("write", "on", 2, ((("cast", 0, 1),), (("stand", 1),))))

    def test_nothing_handed_in_is_changed(self):
        bars, couples = [[("cast", 0, 1)], [("stand", 1)]], ["ann", "bea", "cat"]
        hall = hall_of(("write", "on", 2, bars), ("form", "a", "twos", couples), ("dance", "a", "on", 3))
        hall.join("a", "dot")
        hall.leave("a", "ann")
        hall.alter("on", bars)
        hall.back()
        told(hall)
        self.assertEqual((bars, couples), ([[("cast", 0, 1)], [("stand", 1)]], ["ann", "bea", "cat"]))

    def test_lists_told_are_new(self):
        hall = hall_of(*ROW[:15])
        hall.back()
        before = all_told(hall)
        for ask in (
            hall.deeds, hall.undone, hall.figures, hall.sets, lambda: hall.figure("hey")[1],
            lambda: hall.figure("hey")[1][0], lambda: hall.log("line"), lambda: hall.log("ring"),
            lambda: hall.standing("line"),
            lambda: hall.standing("ring"), lambda: hall.column("line"), lambda: hall.next_pairs("line"),
            lambda: hall.waiting("line"), lambda: hall.column("solo"), lambda: hall.standing("solo"),
        ):
            answer = ask()
            self.assertIsInstance(answer, list)
            answer.append("more")
            answer.reverse()
            self.assertEqual(all_told(hall), before)
            ask().clear()
            self.assertEqual(all_told(hall), before)

    def test_kinds_of_what_is_told(self):
        hall = hall_of(*ROW[:15])
        hall.back()
        self.assertEqual(hall.deeds()[0], ("write", "on", 2, ((("cast", 0, 1),),)))
        self.assertEqual(hall.deeds()[2], ("write", "rest", 2, ()))
        self.assertEqual(hall.deeds()[3], ("alter", "hey", ((("cast", 0, 2),),)))
        self.assertEqual(hall.deeds()[4], ("form", "line", "twos", ("ann", "bea", "cat")))
        self.assertEqual(hall.undone(), [("late", "line", 3, "on", HUGE)])
        for rows in (hall.deeds(), hall.undone(), hall.log("line"), hall.standing("ring"), hall.next_pairs("line")):
            self.assertIsInstance(rows, list)
            self.assertEqual([row for row in rows if row != frozen(row) or not isinstance(row, tuple)], [])
        self.assertEqual(hall.figure("hey"), (3, [[("cast", 0, 2)]]))
        self.assertIsInstance(hall.figure("hey"), tuple)

    def test_two_halls_are_apart(self):
        one, other = Hall(), Hall()
        one.write("on", 2, ON)
        one.form("a", "twos", ["ann"])
        self.assertEqual((other.figures(), other.sets(), len(other)), ([], [], 0))
        other.form("a", "whole", ["ann", "bea"])
        self.assertEqual((one.kind("a"), other.kind("a")), ("twos", "whole"))


class ByName(HallCase):
    def test_deeds(self):
        hall = Hall()
        hall.write(bars=ON, spots=2, name="on")
        hall.write(bars=[], name="rest", spots=3)
        hall.alter(bars=HEY, name="rest")
        hall.form(couples=["ann", "bea", "cat"], kind="twos", name="a")
        hall.form(kind="whole", couples=["dot", "eve", "fay"], name="b")
        hall.dance(many=2, figure="on", name="a")
        hall.dance(figure="rest", name="b")
        hall.join("a", "gil")
        hall.leave(couple="ann", name="a")
        hall.swap(other="cat", one="gil", name="a")
        hall.late(many=3, figure="on", at=1, name="a")
        hall.late(figure="on", at=0, name="a")
        hall.scratch(at=1, name="a")
        hall.close(name="b")
        hall.erase(name="rest")
        self.assertEqual(hall.deeds(), [
            ("write", "on", 2, frozen(ON)), ("write", "rest", 3, ()), ("alter", "rest", frozen(HEY)),
            ("form", "a", "twos", ("ann", "bea", "cat")), ("form", "b", "whole", ("dot", "eve", "fay")),
            ("dance", "a", "on", 2), ("dance", "b", "rest", 1), ("join", "a", "gil"), ("leave", "a", "ann"),
            ("swap", "a", "gil", "cat"), ("late", "a", 1, "on", 3), ("late", "a", 0, "on", 1), ("scratch", "a", 1),
            ("close", "b"), ("erase", "rest"),
        ])
        self.assert_by_hand(hall)

    def test_questions(self):
        hall = hall_of(*OPENING)
        hall.dance("line", "on")
        self.assertEqual(hall.figure(name="on"), (2, ON))
        self.assertEqual((hall.kind(name="line"), hall.rounds(name="line")), ("twos", 1))
        self.assertEqual(hall.log(name="line"), [("dance", "on", 1)])
        self.assertEqual(hall.standing(name="ring")[:2], [("cf", "left"), ("cf", "right")])
        self.assertEqual(hall.column(name="line"), ["cb", "ca", "cd", "cc", "ce"])
        self.assertEqual(hall.next_pairs(name="line"), [("ca", "cd"), ("cc", "ce")])
        self.assertEqual(hall.waiting(name="line"), ["cb"])
        self.assertEqual(hall.met(other="cb", one="ca", name="line"), 1)
        self.assertEqual(hall.met("line", other="cc", one="ca"), 0)


if __name__ == "__main__":
    unittest.main()
