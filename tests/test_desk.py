"""The desk: each form of line and its answer, refusals, and lines of no form."""

import unittest

from longways import errors
from longways.desk import Desk
from longways.hall import Hall
from longways.pages import deed_text, page_text
from tests.floors import BAD_NAMES, HUGE, ON, HallCase, any_halls, do, told

START = (
    "write on 2 cast:0:1", "write parted 2 pass:0:0", "write stays 2 -", "write crossed 2 ring:0:1:2",
    "write three 3 cast:0:2", "form line twos ann bea cat", "form ring whole dot eve fay", "form solo twos gil",
)


def desk_of(*lines):
    """A desk at which these lines were said, all of which are done."""
    desk = Desk()
    for line in lines:
        if desk.say(line) != "done":
            raise AssertionError(line)
    return desk


class DeskCase(HallCase):
    def assert_said(self, desk, *rows):
        for line, answer in rows:
            self.assertEqual(desk.say(line), answer, line)

    def assert_changes_nothing(self, desk, *rows):
        before = told(desk.hall), desk.hall.undone()
        self.assert_said(desk, *rows)
        self.assertEqual((told(desk.hall), desk.hall.undone()), before)


class Lines(DeskCase):
    def test_an_evening(self):
        self.assert_said(
            Desk(), ("sets", "none"), ("figures", "none"), ("write on 2 cast:0:1", "done"), ("figures", "on"),
            ("form line twos ann bea cat", "done"), ("sets", "line"), ("column line", "ann bea cat"),
            ("next line", "ann:bea"), ("waiting line", "cat"), ("rounds line", "0"), ("met line ann bea", "0"),
            ("dance line on 1", "done"), ("column line", "bea ann cat"), ("rounds line", "1"),
            ("met line ann bea", "1"), ("met line bea ann", "1"), ("met line ann cat", "0"), ("next line", "ann:cat"),
            ("waiting line", "bea"),
            ("standing line", "bea:left bea:right ann:left ann:right cat:left cat:right"),
            ("join line dot", "done"), ("column line", "bea ann cat dot"), ("waiting line", "bea dot"),
            ("leave line bea", "done"), ("column line", "ann cat dot"), ("swap line ann dot", "done"),
            ("column line", "dot cat ann"), ("next line", "cat:ann"), ("late line 0 on 2", "done"),
            ("column line", "cat dot ann"), ("rounds line", "3"), ("scratch line 1", "done"), ("rounds line", "2"),
            ("alter on lead:0:1", "done"), ("leads on", "on"), ("erase on", "done"), ("figures", "none"),
            ("back", "erase on"), ("figures", "on"), ("back", "alter on lead:0:1"), ("back", "scratch line 1"),
            ("rounds line", "3"), ("again", "scratch line 1"), ("rounds line", "2"), ("close line", "done"),
            ("sets", "none"), ("again", "no NothingLeft"), ("back", "close line"), ("sets", "line"),
        )

    def test_several_things(self):
        desk = desk_of(*START)
        self.assert_changes_nothing(
            desk, ("sets", "line ring solo"), ("figures", "on parted stays crossed three"),
            ("standing ring", "dot:left dot:right eve:left eve:right fay:left fay:right"),
            ("standing solo", "gil:left gil:right"), ("column solo", "gil"),
        )
        desk.say("form more twos hal ida joe kit lou")
        self.assert_said(desk, ("next more", "hal:ida joe:kit"), ("dance more on 1", "done"))
        self.assert_said(desk, ("next more", "hal:kit joe:lou"), ("waiting more", "ida"))

    def test_everybody_goes_alone_in_a_whole_set(self):
        desk = desk_of(*START, "write turn 3 ring:0:2:1", "dance ring turn 1")
        self.assertEqual(desk.say("standing ring"), "eve:left dot:left fay:left dot:right fay:right eve:right")

    def test_nothing_to_tell(self):
        desk = desk_of(*START)
        self.assert_changes_nothing(desk, ("next solo", "none"), ("waiting solo", "gil"), ("rounds solo", "0"))
        desk.say("form pair twos hal ida")
        self.assert_said(
            desk, ("waiting pair", "none"), ("next pair", "hal:ida"), ("dance pair on 1", "done"),
            ("next pair", "none"), ("waiting pair", "ida hal"),
        )

    def test_leads(self):
        desk = desk_of(*START)
        self.assert_changes_nothing(
            desk, ("leads on", "on"), ("leads parted", "parted"), ("leads stays", "stays"),
            ("leads crossed", "crossed"), ("leads three", "no WrongSize"), ("leads none", "no NoFigure"),
            ("leads line", "no NoFigure"), ("leads ann", "no NoFigure"),
        )

    def test_great_numbers(self):
        desk = desk_of(*START, f"dance line on {HUGE}", f"late line 0 on {HUGE}", f"dance ring three {HUGE}")
        self.assert_changes_nothing(
            desk, ("rounds line", str(2 * HUGE)), ("met line ann bea", str(2 * HUGE // 3)), ("rounds ring", str(HUGE)),
            ("column line", "ann bea cat"),
        )
        self.assert_said(desk, ("back", f"dance ring three {HUGE}"), ("back", f"late line 0 on {HUGE}"))

    def test_each_deed_is_done_and_told_back_as_written(self):
        rows = START + (
            "dance line on 3", "dance ring three 2", "join line hal", "leave line ann", "swap line bea hal",
            "late line 1 on 4", "scratch line 0", "alter three cross:0+cross:1/stand:4", "alter on -", "erase on",
            "close ring", "form ring whole dot ann", "write on 6 -",
        )
        desk = desk_of(*rows)
        page = "".join(row + "\n" for row in rows)
        self.assertEqual(page_text(desk.hall), page)
        self.assert_by_hand(desk.hall)
        self.assert_said(desk, *(("back", row) for row in rows[::-1]), ("back", "no NothingLeft"))
        self.assert_said(desk, *(("again", row) for row in rows), ("again", "no NothingLeft"))
        self.assertEqual(page_text(desk.hall), page)


class Refusals(DeskCase):
    ROWS = (
        ("write a 1 -", "BadSpots"), (f"write a {HUGE} -", "BadSpots"), (f"write a -{HUGE} -", "BadSpots"),
        ("write a 2 " + "/".join(["stand:1"] * 17), "BadFigure"), ("write a 2 " + "+".join(["stand:1"] * 5), "BadBar"),
        ("write a 2 cross:2", "BadCall"), ("write a 2 cross:0+cast:0:1", "Clash"), ("write on 2 -", "Known"),
        ("alter none -", "NoFigure"), ("alter on cross:2", "BadCall"), ("alter on cross:0+cross:0", "Clash"),
        ("erase none", "NoFigure"), ("form line twos hal", "Known"), ("form a twos", "Few"),
        ("form a whole hal", "Few"), ("form a whole a b c d e f g", "Full"),
        ("form a twos a b c d e f g h i j k l m", "Full"), ("form a twos ann", "Taken"), ("form a twos a a", "Taken"),
        ("dance none on 1", "NoSet"), ("dance line none 1", "NoFigure"), ("dance line three 1", "WrongSize"),
        ("dance line parted 1", "NotOn"), ("dance line on 0", "BadNumber"), ("dance line on -1", "BadNumber"),
        ("join none hal", "NoSet"), ("join ring hal", "Fixed"), ("join line gil", "Taken"),
        ("leave none ann", "NoSet"), ("leave ring dot", "Fixed"), ("leave line hal", "NoCouple"),
        ("leave solo gil", "Last"), ("swap ring dot eve", "Fixed"), ("swap line ann hal", "NoCouple"),
        ("swap line ann ann", "Same"), ("late line 2 on 1", "NoEntry"), ("late line -1 on 1", "NoEntry"),
        ("late line 0 stays 1", "NotOn"), ("late line 0 on 0", "BadNumber"), ("scratch none 0", "NoSet"),
        ("scratch line 1", "NoEntry"), ("scratch line 0", "NotDanced"), ("close none", "NoSet"),
        ("column none", "NoSet"), ("waiting none", "NoSet"), ("standing none", "NoSet"), ("next none", "NoSet"),
        ("rounds none", "NoSet"), ("met none ann bea", "NoSet"), ("column ring", "Fixed"), ("waiting ring", "Fixed"),
        ("next ring", "Fixed"), ("met ring dot dot", "Fixed"), ("met line ann hal", "NoCouple"),
        ("met line hal hal", "NoCouple"), ("met line ann ann", "Same"), ("leads none", "NoFigure"),
        ("leads three", "WrongSize"), ("again", "NothingLeft"),
    )

    def test_each_by_its_name(self):
        desk = desk_of(*START, "swap line ann bea")
        self.assert_changes_nothing(desk, *((line, "no " + name) for line, name in self.ROWS))
        self.assert_said(Desk(), ("back", "no NothingLeft"), ("again", "no NothingLeft"))

    def test_every_refusal_that_can_come_is_among_them(self):
        # The others are those of ways, of columns by their count, and of texts, none of which a line reaches.
        barred = {"DanceError", "BadWay", "TooMany", "BadName", "BadKind", "BadText"}
        names = {name for name, value in vars(errors).items() if isinstance(value, type)}
        self.assertEqual({name for line, name in self.ROWS}, names - barred)

    def test_full_book_and_hall(self):
        figures = [f"write f{letter} 2 -" for letter in "abcdefghijkl"]
        desk = desk_of(*figures, *(f"form {letter} twos {letter}" for letter in "abcdefgh"))
        self.assert_changes_nothing(desk, ("write new 2 -", "no Full"), ("form new twos z", "no Full"))
        for letter in "klmnopqrstu":
            desk.say(f"join a {letter}")
        self.assert_changes_nothing(desk, ("join a z", "no Full"))

    def test_a_refused_line_keeps_what_could_be_done_again(self):
        desk = desk_of(*START)
        desk.say("back")
        self.assert_changes_nothing(desk, ("dance none on 1", "no NoSet"), ("hop", "no line"), ("sets", "line ring"))
        self.assert_said(desk, ("again", "form solo twos gil"), ("back", "form solo twos gil"), ("erase on", "done"))
        self.assert_said(desk, ("again", "no NothingLeft"))


class NoLine(DeskCase):
    def test_lines_nearly_of_a_form(self):
        desk = desk_of(*START)
        desk.say("back")
        forms = (
            "back", "again", "sets", "figures", "column line", "waiting line", "standing line", "next line",
            "rounds line", "met line ann bea", "leads on", "write a 2 -", "alter on -", "erase on", "dance line on 1",
            "join line hal", "leave line ann", "swap line ann bea", "late line 0 on 1", "scratch line 0", "close line",
        )
        for form in forms:
            nearly = [
                " " + form, form + " ", form + "\n", "\n" + form, form.upper(), form + " ?", form + " 1", "x" + form,
                form.replace(" ", "  ", 1) + ("" if " " in form else "."), form.replace(" ", ",", 1) + ".", form + " a",
            ]
            if " " in form:
                nearly += [form.rpartition(" ")[0], form.partition(" ")[0], form.replace(" ", "\n", 1)]
            self.assert_changes_nothing(desk, *((line, "no line") for line in nearly))

    def test_names_that_are_none(self):
        desk = desk_of(*START)
        for name in BAD_NAMES:
            words = ("column", "waiting", "standing", "next", "rounds", "leads", "close", "erase")
            lines = [f"{word} {name}" for word in words]
            lines += [f"met {name} ann bea", f"met line {name} bea", f"met line ann {name}", f"join line {name}"]
            lines += [f"dance {name} on 1", f"dance line {name} 1", f"write {name} 2 -", f"form {name} twos hal"]
            self.assert_changes_nothing(desk, *((line, "no line") for line in lines))

    def test_other_lines(self):
        self.assert_changes_nothing(
            desk_of(*START),
            *((line, "no line") for line in (
                "", " ", "\n", "hop", "twin", "deeds", "undone", "log line", "kind line", "figure on",
                "next_pairs line", "set", "form a threes hal", "form a twos Hal", "form a twos hal,ida",
                "write a two -", "write a 2 hop:1", "write a 2 cross:0:1", "write a 2 cross:00", "dance line on 01",
                "dance line on +1", "dance line on -0", "dance line on", "dance line on " + "9" * 61,
                "late line on 0 1", "sets\nsets", "sets none", "done", "none", "no line", "__init__", "say sets",
                "column line ring", "met line ann", "met line ann bea cat", "-", "x" * 40000,
            )),
        )


class TheHall(DeskCase):
    def test_what_is_done_by_hand_is_seen(self):
        desk = Desk()
        hall = desk.hall
        self.assertIsInstance(hall, Hall)
        self.assertIs(desk.hall, hall)
        hall.write("on", 2, ON)
        hall.form("line", "twos", ["ann", "bea"])
        self.assert_said(desk, ("figures", "on"), ("column line", "ann bea"), ("dance line on 1", "done"))
        self.assertEqual(hall.column("line"), ["bea", "ann"])
        self.assertEqual(hall.back(), ("dance", "line", "on", 1))
        self.assert_said(desk, ("column line", "ann bea"), ("again", "dance line on 1"), ("back", "dance line on 1"))
        self.assertEqual(hall.undone(), [("dance", "line", "on", 1)])
        hall.join("line", "cat")
        self.assert_said(desk, ("again", "no NothingLeft"), ("back", "join line cat"))
        self.assertIs(desk.hall, hall)

    def test_two_desks_are_apart(self):
        one, other = Desk(), Desk()
        self.assertIsNot(one.hall, other.hall)
        one.say("form line twos ann")
        self.assert_said(other, ("sets", "none"), ("form line whole ann bea", "done"))
        self.assert_said(one, ("column line", "ann"))
        self.assert_said(other, ("column line", "no Fixed"))

    def test_any_deeds_said(self):
        by_hand, desk = None, None
        for hall, deed, done in any_halls(range(50, 53), 60):
            if hall is not by_hand:
                by_hand, desk = hall, Desk()
                for standing in hall.deeds()[:-1] if done else hall.deeds():
                    do(desk.hall, standing)
            answer = desk.say(deed_text(deed))
            self.assertEqual(answer == "done", done, (deed, answer))
            self.assertEqual(desk.hall, hall)
            if not done:
                self.assertTrue(hasattr(errors, answer.removeprefix("no ")), answer)

    def test_by_name(self):
        self.assertEqual(Desk().say(line="sets"), "none")


if __name__ == "__main__":
    unittest.main()
