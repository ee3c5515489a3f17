"""Calls, bars, figures, deeds and pages as texts, and these read again."""

import unittest

from longways.errors import BadText, DanceError
from longways.hall import Hall
from longways.pages import deed_text, figure_text, page_text, read_deed, read_figure, read_page
from tests.floors import BAD_NAMES, FLOORS, HEY, HUGE, ON, OPENING, HallCase, any_halls, good_calls, hall_of, told

CALLS = {
    "ring:0:1:64": ("ring", 0, 1, 64), "chain:2:5:-64": ("chain", 2, 5, -64), "cross:0": ("cross", 0),
    "pass:3:1": ("pass", 3, 1), "corner:4:0": ("corner", 4, 0), "cast:0:5": ("cast", 0, 5), "lead:1:2": ("lead", 1, 2),
    "stand:64": ("stand", 64), f"ring:{HUGE}:-{HUGE}:0": ("ring", HUGE, -HUGE, 0), "cross:-1": ("cross", -1),
    f"stand:-{HUGE}": ("stand", -HUGE), "stand:10": ("stand", 10), f"cast:{10 ** 59}:100": ("cast", 10 ** 59, 100),
    "pass:9:-9": ("pass", 9, -9),
}
FIGURES = {
    "-": [], "cast:0:1": [[("cast", 0, 1)]], "cross:0+cross:1": [[("cross", 0), ("cross", 1)]],
    "cross:0/cross:1": [[("cross", 0)], [("cross", 1)]],
    "ring:0:2:1+stand:8/corner:1:0+cross:0/chain:0:1:-3": HEY,
    "/".join(["stand:1"] * 200): [[("stand", 1)]] * 200,
    "+".join(["stand:1"] * 200): [[("stand", 1)] * 200],
    "cross:0+cross:0": [[("cross", 0), ("cross", 0)]],
}
DEEDS = {
    "write a 2 cast:0:1": ("write", "a", 2, ((("cast", 0, 1),),)),
    "write abcdefgh -7 -": ("write", "abcdefgh", -7, ()),
    f"write z {HUGE} cross:0+cross:1/stand:3": ("write", "z", HUGE, ((("cross", 0), ("cross", 1)), (("stand", 3),))),
    "alter hey -": ("alter", "hey", ()),
    "alter hey cross:9/cross:8": ("alter", "hey", ((("cross", 9),), (("cross", 8),))),
    "erase hey": ("erase", "hey"),
    "form a twos ann": ("form", "a", "twos", ("ann",)),
    "form a whole ann bea cat": ("form", "a", "whole", ("ann", "bea", "cat")),
    "form a twos": ("form", "a", "twos", ()),
    "form a whole": ("form", "a", "whole", ()),
    "form twos twos twos twos": ("form", "twos", "twos", ("twos", "twos")),
    "form a twos " + " ".join(["ann"] * 200): ("form", "a", "twos", ("ann",) * 200),
    "dance a on 1": ("dance", "a", "on", 1),
    f"dance a on -{HUGE}": ("dance", "a", "on", -HUGE),
    f"dance a on {HUGE}": ("dance", "a", "on", HUGE),
    "dance a on 0": ("dance", "a", "on", 0),
    "join a ann": ("join", "a", "ann"),
    "leave a ann": ("leave", "a", "ann"),
    "swap a ann bea": ("swap", "a", "ann", "bea"),
    "swap a ann ann": ("swap", "a", "ann", "ann"),
    "late a 0 on 1": ("late", "a", 0, "on", 1),
    f"late a -{HUGE} on {HUGE}": ("late", "a", -HUGE, "on", HUGE),
    "scratch a 0": ("scratch", "a", 0),
    "scratch a -1": ("scratch", "a", -1),
    "close a": ("close", "a"),
}
BAD_NUMBERS = (
    "", "-", "--1", "-0", "+1", "+0", "00", "01", "-01", "1-", "1 ", " 1", "1.0", "1e3", "1_0", "0x1", "1x", "a", "1a",
    "one", "1\n", "\n1", "\n", "- 1", "True", "9" * 61, "-" + "9" * 61, "0" * 60, "1" + "0" * 60, "9" * 39000,
)
BAD_CALLS = (
    "", ":", "cross", "cross:", "cross:0:", ":0", "cross:0:1", "cross::0", "hop", "hop:0", "Cross:0", "cross 0",
    "cross:a", "ring:0:1", "ring:0:1:2:3", "ring", "chain:0:1", "pass:0", "pass:0:1:2", "corner:0", "cast:0",
    "cast:0:1:2", "lead:0", "lead:0:1:2", "stand", "stand:1:2", " cross:0", "cross:0 ", "cross: 0", "cross:0\n",
    "\ncross:0", "cross;0", "cross,0", "(cross:0)", "cross:-", "back", "cross:0cross:1",
)
BAD_FIGURES = (
    "", "--", "/", "+", "-/cross:0", "cross:0/-", "cross:0+-", "cross:0/", "/cross:0", "cross:0//cross:1", "cross:0+",
    "+cross:0", "cross:0++cross:1", "cross:0/+cross:1", "cross:0 / cross:1", "cross:0 +cross:1", "- ", " -", "-\n",
    "[]", "cross:0|cross:1", "cross:0, cross:1", "cross:0 cross:1",
)


class TextCase(HallCase):
    def assert_bad(self, at, read, text):
        with self.assertRaises(BadText, msg=repr(text)) as caught:
            read(text)
        self.assertEqual(caught.exception.at, at, text)


class FigureTexts(TextCase):
    def test_calls(self):
        for text, call in CALLS.items():
            self.assertEqual(figure_text([[call]]), text)
            self.assertEqual(read_figure(text), [[call]])

    def test_every_call_of_a_floor(self):
        for spots in FLOORS:
            calls = good_calls(spots)
            figure = [calls[at:at + 40] for at in range(0, len(calls), 40)]
            self.assertEqual(read_figure(figure_text(figure)), figure)

    def test_figures(self):
        for text, figure in FIGURES.items():
            self.assertEqual(figure_text(figure), text)
            self.assertEqual(read_figure(text), figure)

    def test_tuples_are_written_alike(self):
        for text, figure in FIGURES.items():
            self.assertEqual(figure_text(tuple(map(tuple, figure))), text)
            self.assertEqual(figure_text(tuple(figure)), text)
            self.assertEqual(figure_text(list(map(tuple, figure))), text)

    def test_kinds_of_what_is_read(self):
        figure = read_figure("cross:0+cross:1/stand:1")
        self.assertIsInstance(figure, list)
        self.assertEqual([type(bar) for bar in figure], [list, list])
        self.assertEqual([type(call) for bar in figure for call in bar], [tuple, tuple, tuple])
        self.assertEqual(read_figure("-"), [])

    def test_what_is_read_is_new(self):
        read_figure("-").append("more")
        read_figure("cross:0")[0].clear()
        self.assertEqual((read_figure("-"), read_figure("cross:0")), ([], [[("cross", 0)]]))

    def test_nothing_handed_in_is_changed(self):
        figure = [[("cross", 0)], [("stand", 1)]]
        figure_text(figure)
        self.assertEqual(figure, [[("cross", 0)], [("stand", 1)]])

    def test_any_number_of_figures(self):
        for digits in range(1, 61):
            for number in (10 ** digits - 1, 10 ** (digits - 1), 1 - 10 ** digits, -10 ** (digits - 1)):
                text = f"stand:{number}"
                self.assertEqual(read_figure(text), [[("stand", number)]])
                self.assertEqual(figure_text([[("stand", number)]]), text)
        self.assertEqual(read_figure("stand:0"), [[("stand", 0)]])
        self.assertEqual(figure_text([[("stand", 0)]]), "stand:0")

    def test_bad_numbers(self):
        for number in BAD_NUMBERS:
            for text in (f"stand:{number}", f"ring:0:{number}:1", f"ring:{number}:1:2", f"pass:0:{number}"):
                self.assert_bad(0, read_figure, text)

    def test_bad_calls_and_figures(self):
        for text in BAD_CALLS:
            for whole in (text, "cross:0+" + text, text + "+cross:0", "cross:0/" + text, text + "/cross:0"):
                self.assert_bad(0, read_figure, whole)
        for text in BAD_FIGURES:
            self.assert_bad(0, read_figure, text)

    def test_texts_of_deeds_are_no_figures(self):
        for text in DEEDS:
            self.assert_bad(0, read_figure, text)


class DeedTexts(TextCase):
    def test_deeds(self):
        for text, deed in DEEDS.items():
            self.assertEqual(deed_text(deed), text)
            self.assertEqual(read_deed(text), deed)
            self.assertIsInstance(read_deed(text), tuple)

    def test_lists_are_written_alike(self):
        self.assertEqual(deed_text(("write", "a", 2, [[("cast", 0, 1)]])), "write a 2 cast:0:1")
        self.assertEqual(deed_text(("write", "a", 2, [])), "write a 2 -")
        self.assertEqual(deed_text(("alter", "a", [(("cast", 0, 1),)])), "alter a cast:0:1")
        self.assertEqual(deed_text(("form", "a", "twos", ["ann", "bea"])), "form a twos ann bea")
        self.assertEqual(deed_text(("form", "a", "twos", [])), "form a twos")

    def test_deeds_of_halls(self):
        for hall, deed, done in any_halls(range(30, 34), 60):
            for standing in hall.deeds()[-1:]:
                self.assertEqual(read_deed(deed_text(standing)), standing)

    def test_bad_names(self):
        for name in BAD_NAMES + ("-", "0", "cross:0", "a:b"):
            for text in (
                f"write {name} 2 -", f"alter {name} -", f"erase {name}", f"form {name} twos ann",
                f"form a twos {name}", f"form a twos ann {name}", f"form a whole ann {name} cat", f"dance {name} on 1",
                f"dance a {name} 1", f"join {name} ann", f"join a {name}", f"leave {name} ann", f"leave a {name}",
                f"swap {name} ann bea", f"swap a {name} bea", f"swap a ann {name}", f"late {name} 0 on 1",
                f"late a 0 {name} 1", f"scratch {name} 0", f"close {name}",
            ):
                # A couple's name with a blank within is two couples' names, so such a text may be a deed.
                if name != "a b" or not text.startswith("form a"):
                    self.assert_bad(0, read_deed, text)
        self.assertEqual(read_deed("form a twos a b"), ("form", "a", "twos", ("a", "b")))

    def test_bad_numbers(self):
        for number in BAD_NUMBERS:
            for text in (
                f"write a {number} -", f"dance a on {number}", f"late a {number} on 1", f"late a 0 on {number}",
                f"scratch a {number}", f"write a 2 cross:{number}", f"alter a cross:{number}",
            ):
                self.assert_bad(0, read_deed, text)

    def test_bad_bars(self):
        for bars in BAD_CALLS + BAD_FIGURES:
            self.assert_bad(0, read_deed, f"write a 2 {bars}")
            self.assert_bad(0, read_deed, f"alter a {bars}")

    def test_bad_kinds(self):
        for kind in ("", "two", "Twos", "TWOS", "wholes", "threes", "ann", "1", "-", "twos,"):
            self.assert_bad(0, read_deed, f"form a {kind} ann")
            self.assert_bad(0, read_deed, f"form a {kind}")

    def test_words_and_counts_of_things(self):
        for text in DEEDS:
            word = text.split(" ")[0]
            for bad in (
                word, word + " ", " " + text, text + " ", text + "\n", "\n" + text, text.replace(" ", "  ", 1),
                text.replace(" ", "\n", 1), text.upper(), "re" + text, text + " 1", text.replace(" ", ",", 1),
            ):
                self.assert_bad(0, read_deed, bad)
            if word != "form":
                self.assert_bad(0, read_deed, text + " a")
                self.assert_bad(0, read_deed, text.rpartition(" ")[0])

    def test_other_texts(self):
        for text in (
            "", " ", "\n", "back", "again", "sets", "twin a", "column a", "form", "form a", "-", "cross:0", "write",
            "write a", "write a 2", "write 2 a -", "write a 2 cross:0 cross:1", "dance a on", "dance a 1 on",
            "late a on 0 1", "late a 0 on", "scratch a", "scratch a a", "swap a ann", "join a", "close", "close a b",
            "a" * 40000, " " * 40000, "done",
        ):
            self.assert_bad(0, read_deed, text)


class Pages(TextCase):
    def test_a_page(self):
        hall = hall_of(*OPENING)
        hall.dance("line", "on", 3)
        hall.erase("two")
        hall.back()
        page = (
            "write on 2 cast:0:1\nwrite hey 3 ring:0:2:1+stand:8/corner:1:0+cross:0/chain:0:1:-3\n"
            "write two 2 ring:0:1:2\nform line twos ca cb cc cd ce\nform ring whole cf cg ch\n"
            "form duo whole ci cj\ndance line on 3\n"
        )
        self.assertEqual(page_text(hall), page)
        read = read_page(page)
        self.assertIsInstance(read, Hall)
        self.assertEqual(read, hall)
        self.assertEqual(told(read), told(hall))
        self.assertEqual((hall.undone(), read.undone()), ([("erase", "two")], []))
        self.assertEqual(page_text(read), page)

    def test_an_empty_page(self):
        self.assertEqual(page_text(Hall()), "")
        self.assertEqual(read_page(""), Hall())
        self.assertEqual(read_page("").undone(), [])

    def test_pages_of_any_halls(self):
        last = None
        for hall, deed, done in any_halls(range(40, 43), 60):
            last = hall
            self.assertEqual(read_page(page_text(hall)), hall)
        self.assertEqual(told(read_page(page_text(last))), told(last))

    def test_a_read_hall_goes_its_own_way(self):
        page = "write on 2 cast:0:1\nform a twos ann bea\n"
        one, other = read_page(page), read_page(page)
        one.dance("a", "on")
        self.assertEqual((one.column("a"), other.column("a")), (["bea", "ann"], ["ann", "bea"]))
        self.assertEqual(one.back(), ("dance", "a", "on", 1))
        self.assertEqual(one.back(), ("form", "a", "twos", ("ann", "bea")))
        self.assertEqual(other.figures(), ["on"])

    def test_rows_that_are_no_deeds(self):
        rows = ["write on 2 cast:0:1", "form a twos ann bea", "dance a on 3", "join a cat", "close a"]
        for at in range(len(rows) + 1):
            for bad in ("", " ", "hop", "back", "Close a", "close a ", "dance a on 03", "dance a on", "write b 2 x:1"):
                page = "".join(row + "\n" for row in rows[:at] + [bad] + rows[at:])
                self.assert_bad(at, read_page, page)
                self.assert_bad(at, read_page, page + "hop")

    def test_rows_that_are_refused(self):
        rows = ["write on 2 cast:0:1", "form a twos ann bea", "dance a on 3", "join a cat"]
        for at in range(len(rows) + 1):
            for bad in ("dance b on 1", "write z 7 -", "form z twos", "erase none", "write z 2 cross:0+cross:0"):
                page = "".join(row + "\n" for row in rows[:at] + [bad] + rows[at:])
                self.assert_bad(at, read_page, page)
        self.assert_bad(2, read_page, "write on 2 -\nform a twos ann\ndance a on 1\nhop\n")
        self.assert_bad(1, read_page, "write on 2 -\nwrite on 2 -\n\n\nhop")

    def test_the_last_line_feed(self):
        rows = ["write on 2 cast:0:1", "form a twos ann bea", "dance a on 3"]
        for many in range(1, 4):
            self.assertEqual(len(read_page("".join(row + "\n" for row in rows[:many])).deeds()), many)
            self.assert_bad(many - 1, read_page, "\n".join(rows[:many]))
            self.assert_bad(many, read_page, "".join(row + "\n" for row in rows[:many]) + "\n")
            self.assert_bad(many, read_page, "".join(row + "\n" for row in rows[:many]) + " ")
            self.assert_bad(many, read_page, "".join(row + "\n" for row in rows[:many]) + "close a")
        self.assert_bad(0, read_page, "\n")
        self.assert_bad(0, read_page, "\n" + rows[0] + "\n")
        self.assert_bad(0, read_page, " ")
        self.assert_bad(0, read_page, "hop")

    def test_long_pages(self):
        rows = ["write on 2 cast:0:1\n", "form a twos ann bea cat\n"]
        while len("".join(rows)) < 39900:
            rows += [f"dance a on {len(rows)}\n", "swap a ann bea\n", "late a 0 on 2\n"]
        page = "".join(rows)
        hall = read_page(page)
        self.assertEqual((len(hall.deeds()), page_text(hall)), (len(rows), page))
        self.assert_bad(len(rows), read_page, page + "hop\n")
        self.assert_bad(len(rows), read_page, page + "hop")

    def test_bad_text_is_a_dance_error(self):
        for read in (read_page, read_deed, read_figure):
            with self.assertRaises(DanceError):
                read("hop")


class ByName(TextCase):
    def test_names(self):
        self.assertEqual(figure_text(figure=ON), "cast:0:1")
        self.assertEqual(deed_text(deed=("close", "a")), "close a")
        self.assertEqual(read_figure(text="cast:0:1"), ON)
        self.assertEqual(read_deed(text="close a"), ("close", "a"))
        self.assertEqual(page_text(hall=hall_of(("write", "on", 2, ON))), "write on 2 cast:0:1\n")
        self.assertEqual(read_page(text="write on 2 cast:0:1\n").figures(), ["on"])


if __name__ == "__main__":
    unittest.main()
