"""Bars and figures: their ways, beats and refusals, figures turned about, and leading on."""

import copy
import itertools
import unittest

from longways.errors import BadBar, BadCall, BadFigure, BadSpots, Clash
from longways.figures import (
    bar_beats, bar_way, figure_beats, figure_way, leads, look_bar, look_figure, turned,
)
from tests.floors import (
    BAD_SPOTS, FLOORS, HUGE, beats_by_hand, behind, good_calls, places_by_hand, spans, way_by_hand,
)

BAR_ASKS = (look_bar, bar_way, bar_beats)
FIGURE_ASKS = (look_figure, figure_way, figure_beats, turned)
CROSS = ("cross", 0)
STAND = ("stand", 1)
# Of each refusal a bar, with the later refusals due in it too where it can be so.
BAD_BARS = (
    ([], BadBar),
    ([CROSS, CROSS, CROSS, CROSS, ("swing",)], BadBar),
    ([STAND] * 5, BadBar),
    ([CROSS] * 200, BadBar),
    ([CROSS, CROSS, ("swing",)], BadCall),
    ([("stand", 65)], BadCall),
    ([CROSS, ("cross", 6), CROSS, STAND], BadCall),
    ([CROSS, STAND, STAND, CROSS], Clash),
    ([("ring", 0, 1, 4), CROSS], Clash),
)


def some_calls(spots):
    """The calls of a floor, but only some counts of places and beats."""
    counted = ("ring", "chain", "stand")
    return [call for call in good_calls(spots) if call[0] not in counted or call[-1] in (-3, 1, 4, 64)]


def places_twice(spots, bar):
    """The places that two calls of a bar take."""
    rows = [places_by_hand(spots, call) for call in bar]
    return [place for place in range(2 * spots) if sum(place in row for row in rows) > 1]


def bar_by_hand(spots, bar):
    """The way of a bar without a clash: each place goes as the call does that takes it."""
    way = list(range(2 * spots))
    for call in bar:
        for place in places_by_hand(spots, call):
            way[place] = way_by_hand(spots, call)[place]
    return way


def figure_by_hand(spots, figure):
    way = list(range(2 * spots))
    for bar in figure:
        way = behind(way, bar_by_hand(spots, bar))
    return way


def some_bars(spots):
    """Bars of one, two and four calls without a clash."""
    calls = some_calls(spots)
    pairs = [list(pair) for pair in itertools.combinations(calls, 2) if not places_twice(spots, pair)]
    fours = [[STAND, *bar, ("stand", 64)] for bar in pairs[::3]]
    return [[call] for call in calls] + pairs[:400] + fours[:100]


def some_figures(spots):
    """Figures of up to 16 bars."""
    bars = some_bars(spots)
    figures = [[], bars[-16:], bars[:16]] + [[bar] for bar in bars[::5]]
    figures += [[one, other] for one, other in zip(bars[::3], bars[::-4])]
    figures += [[one, other, one] for one, other in zip(bars[1::7], bars[::-7])]
    return figures


class Bars(unittest.TestCase):
    def test_ways(self):
        self.assertEqual(bar_way(2, [("ring", 0, 1, 1)]), [1, 3, 0, 2])
        self.assertEqual(bar_way(3, [("cross", 0), ("pass", 1, 0)]), [1, 0, 4, 3, 2, 5])
        self.assertEqual(bar_way(4, [("cast", 0, 1), ("ring", 2, 3, 1)]), [2, 3, 0, 1, 5, 7, 4, 6])
        four = [("cross", 5), ("corner", 0, 0), ("pass", 2, 1), ("stand", 64)]
        self.assertEqual(bar_way(6, four), [3, 1, 2, 0, 4, 7, 6, 5, 8, 9, 11, 10])
        self.assertEqual(bar_way(6, four[::-1]), [3, 1, 2, 0, 4, 7, 6, 5, 8, 9, 11, 10])

    def test_a_bar_lasts_as_long_as_its_longest_call(self):
        self.assertEqual(bar_beats(2, [("cross", 0)]), 2)
        self.assertEqual(bar_beats(3, [("ring", 0, 1, -5), ("cross", 2)]), 10)
        self.assertEqual(bar_beats(3, [("cross", 0), ("corner", 1, 0)]), 3)
        self.assertEqual(bar_beats(3, [("corner", 1, 0), ("cross", 0)]), 3)
        self.assertEqual(bar_beats(2, [("cross", 0), ("cross", 1), ("stand", 64), ("stand", 1)]), 64)

    def test_a_bar_of_stands_alone(self):
        bar = [("stand", 3), ("stand", 5), ("stand", 5), ("stand", 1)]
        for spots in FLOORS:
            self.assertIsNone(look_bar(spots, bar))
            self.assertEqual(bar_way(spots, bar), list(range(2 * spots)))
            self.assertEqual(bar_beats(spots, bar), 5)

    def test_places_that_no_call_takes_stay(self):
        way = bar_way(6, [("pass", 1, 0), ("pass", 3, 1)])
        self.assertEqual(way, [0, 1, 4, 3, 2, 5, 6, 9, 8, 7, 10, 11])

    def test_bars_by_hand(self):
        for spots in FLOORS:
            for bar in some_bars(spots):
                with self.subTest(spots=spots, bar=bar):
                    self.assertIsNone(look_bar(spots, bar))
                    self.assertEqual(bar_way(spots, bar), bar_by_hand(spots, bar))
                    self.assertEqual(bar_beats(spots, bar), max(beats_by_hand(call) for call in bar))

    def test_what_is_handed_in_stays_and_what_is_told_is_new(self):
        bar = [("cross", 0), ("stand", 3)]
        bar_way(2, bar).clear()
        bar_beats(2, bar)
        look_bar(2, bar)
        self.assertEqual(bar, [("cross", 0), ("stand", 3)])
        self.assertEqual(bar_way(2, bar), [1, 0, 2, 3])

    def test_names(self):
        self.assertIsNone(look_bar(bar=[CROSS], spots=2))
        self.assertEqual(bar_way(bar=[CROSS], spots=2), [1, 0, 2, 3])
        self.assertEqual(bar_beats(bar=[CROSS], spots=2), 2)


class RefusedBars(unittest.TestCase):
    def clash(self, spots, bar):
        """The place that each function tells of the clash."""
        places = set()
        for ask in BAR_ASKS:
            with self.assertRaises(Clash) as caught:
                ask(spots, bar)
            places.add(caught.exception.place)
        self.assertEqual(len(places), 1)
        return places.pop()

    def test_the_least_place_that_two_calls_take(self):
        self.assertEqual(self.clash(2, [("cross", 0), ("cross", 0)]), 0)
        self.assertEqual(self.clash(2, [("pass", 0, 1), ("cross", 1)]), 3)
        self.assertEqual(self.clash(6, [("cast", 0, 5), ("cross", 2)]), 4)
        self.assertEqual(self.clash(6, [("lead", 4, 5), ("stand", 9), ("corner", 4, 1)]), 9)

    def test_three_calls_that_overlap_at_several_places(self):
        self.assertEqual(self.clash(6, [("ring", 2, 5, 1), ("cast", 1, 3), ("cross", 5)]), 4)
        self.assertEqual(self.clash(6, [("cross", 3), ("cross", 1), ("cast", 1, 3)]), 2)
        self.assertEqual(self.clash(6, [("cast", 1, 3), ("cross", 3), ("cross", 1)]), 2)
        self.assertEqual(self.clash(4, [("chain", 1, 3, 2), ("cross", 3), ("pass", 0, 1)]), 3)
        self.assertEqual(self.clash(4, [("cross", 2), ("cross", 2), ("cross", 2), STAND]), 4)

    def test_places_are_taken_also_where_somebody_comes_back(self):
        self.assertEqual(self.clash(2, [("ring", 0, 1, 4), ("cross", 1)]), 2)
        self.assertEqual(self.clash(3, [("chain", 0, 2, -6), ("cross", 2)]), 4)

    def test_every_three_calls_on_two_spots_and_every_two_on_others(self):
        rows = [(2, bar) for bar in itertools.product(some_calls(2), repeat=3)]
        rows += [(spots, bar) for spots in (3, 4) for bar in itertools.product(some_calls(spots), repeat=2)]
        for spots, bar in rows:
            twice = places_twice(spots, bar)
            try:
                told = look_bar(spots, list(bar))
            except Clash as clash:
                told = clash.place
            self.assertEqual(told, twice[0] if twice else None, (spots, bar))

    def test_three_calls_on_six_spots(self):
        calls = some_calls(6)[::7]
        for bar in itertools.product(calls, repeat=3):
            twice = places_twice(6, bar)
            if twice:
                with self.assertRaises(Clash) as caught:
                    look_bar(6, list(bar))
                self.assertEqual(caught.exception.place, twice[0], bar)

    def test_counts_of_calls(self):
        for ask in BAR_ASKS:
            for count in (1, 2, 3, 4):
                ask(2, [STAND] * count)
            for count in (0, 5, 6, 200):
                self.assertRaises(BadBar, ask, 2, [STAND] * count)

    def test_refusals_in_their_order(self):
        for spots in FLOORS:
            for bar, error in BAD_BARS:
                for ask in BAR_ASKS:
                    with self.subTest(ask.__name__, spots=spots, bar=bar[:5]):
                        self.assertRaises(error, ask, spots, bar)
        for spots in BAD_SPOTS:
            for bar in [[CROSS]] + [bar for bar, error in BAD_BARS]:
                for ask in BAR_ASKS:
                    with self.subTest(ask.__name__, spots=spots, bar=bar[:5]):
                        self.assertRaises(BadSpots, ask, spots, bar)

    def test_a_wrong_call_at_any_place(self):
        for at in range(4):
            for call in (("swing", 0), ("cross",), ("cross", -1), ("cross", 2), ("stand", 0), ("ring", 0, 1, HUGE), ()):
                bar = [STAND, CROSS, CROSS]
                bar.insert(at, call)
                for ask in BAR_ASKS:
                    self.assertRaises(BadCall, ask, 2, bar)

    def test_a_refused_bar_stays_as_it_was(self):
        bar = [CROSS, STAND, CROSS]
        for ask in BAR_ASKS:
            self.assertRaises(Clash, ask, 2, bar)
        self.assertEqual(bar, [CROSS, STAND, CROSS])


class Figures(unittest.TestCase):
    def test_without_bars_nobody_goes(self):
        for spots in FLOORS:
            self.assertIsNone(look_figure(spots, []))
            self.assertEqual(figure_way(spots, []), list(range(2 * spots)))
            self.assertEqual(figure_beats(spots, []), 0)
            self.assertEqual(turned(spots, []), [])

    def test_bars_are_danced_one_behind_the_other(self):
        cast, cross = [("cast", 0, 2)], [("cross", 0)]
        self.assertEqual(figure_way(3, [cast, cross]), [4, 5, 1, 0, 2, 3])
        self.assertEqual(figure_way(3, [cross, cast]), [5, 4, 0, 1, 2, 3])
        self.assertEqual(figure_way(3, [cross, cross]), [0, 1, 2, 3, 4, 5])

    def test_beats_together(self):
        self.assertEqual(figure_beats(3, [[("cast", 0, 2)], [("cross", 0)]]), 6)
        self.assertEqual(figure_beats(3, [[("cross", 0), ("corner", 1, 0)], [STAND], [("ring", 0, 1, 4), STAND]]), 12)
        self.assertEqual(figure_beats(2, [[("ring", 0, 1, 64)]] * 16), 2048)

    def test_counts_of_bars(self):
        for ask in FIGURE_ASKS:
            for count in (0, 1, 15, 16):
                ask(2, [[CROSS]] * count)
            for count in (17, 18, 200):
                self.assertRaises(BadFigure, ask, 2, [[CROSS]] * count)

    def test_figures_by_hand(self):
        for spots in FLOORS:
            for figure in some_figures(spots):
                with self.subTest(spots=spots, figure=figure):
                    self.assertIsNone(look_figure(spots, figure))
                    self.assertEqual(figure_way(spots, figure), figure_by_hand(spots, figure))
                    lasts = sum(max(beats_by_hand(call) for call in bar) for bar in figure)
                    self.assertEqual(figure_beats(spots, figure), lasts)

    def test_refusals_of_bars(self):
        for spots in FLOORS:
            for bar, error in BAD_BARS:
                for ask in FIGURE_ASKS:
                    for figure in ([bar], [[STAND]] * 15 + [bar], [[CROSS], bar, [STAND]]):
                        self.assertRaises(error, ask, spots, figure)

    def test_the_first_bar_that_is_refused_gives_the_refusal(self):
        for one, other in itertools.product(BAD_BARS, repeat=2):
            for ask in FIGURE_ASKS:
                self.assertRaises(one[1], ask, 2, [[STAND], one[0], [STAND], other[0]])
        for ask in FIGURE_ASKS:
            with self.assertRaises(Clash) as caught:
                ask(3, [[STAND], [("cross", 2), ("cross", 2)], [CROSS, CROSS]])
            self.assertEqual(caught.exception.place, 4)

    def test_bad_figure_comes_ahead_of_its_bars(self):
        for bar, error in BAD_BARS:
            for ask in FIGURE_ASKS:
                self.assertRaises(BadFigure, ask, 2, [bar] * 17)
                self.assertRaises(error, ask, 2, [bar] * 16)

    def test_bad_spots_come_first(self):
        for spots in BAD_SPOTS:
            for figure in ([], [[]], [[CROSS]], [[CROSS, CROSS]], [[("swing",)]], [[]] * 17):
                for ask in FIGURE_ASKS:
                    with self.subTest(ask.__name__, spots=spots, figure=figure):
                        self.assertRaises(BadSpots, ask, spots, figure)

    def test_what_is_handed_in_stays_and_what_is_told_is_new(self):
        for spots in FLOORS:
            for figure in some_figures(spots):
                kept = copy.deepcopy(figure)
                look_figure(spots, figure)
                figure_beats(spots, figure)
                figure_way(spots, figure).clear()
                self.assertEqual(figure, kept)
                self.assertEqual(len(figure_way(spots, figure)), 2 * spots)

    def test_names(self):
        self.assertIsNone(look_figure(figure=[[CROSS]], spots=2))
        self.assertEqual(figure_way(figure=[[CROSS]], spots=2), [1, 0, 2, 3])
        self.assertEqual(figure_beats(figure=[[CROSS]], spots=2), 2)
        self.assertEqual(turned(figure=[[("cast", 0, 1)]], spots=2), [[("lead", 0, 1)]])


class TurnedFigures(unittest.TestCase):
    def test_bars_in_turned_order_and_calls_in_their_places(self):
        figure = [
            [("ring", 0, 1, 2), ("cross", 2)],
            [("chain", 0, 2, 2)],
            [("chain", 1, 2, -3)],
            [("cast", 0, 2)],
            [("lead", 1, 2), ("stand", 7)],
            [("pass", 0, 1), ("corner", 1, 0)],
        ]
        self.assertEqual(turned(3, figure), [
            [("pass", 0, 1), ("corner", 1, 0)],
            [("cast", 1, 2), ("stand", 7)],
            [("lead", 0, 2)],
            [("chain", 1, 2, -3)],
            [("chain", 0, 2, -2)],
            [("ring", 0, 1, -2), ("cross", 2)],
        ])

    def test_turned_twice_and_brought_home(self):
        for spots in FLOORS:
            for figure in some_figures(spots):
                with self.subTest(spots=spots, figure=figure):
                    back = turned(spots, figure)
                    self.assertEqual(turned(spots, back), figure)
                    self.assertEqual(behind(figure_by_hand(spots, figure), figure_by_hand(spots, back)),
                                     list(range(2 * spots)))
                    self.assertEqual(behind(figure_way(spots, figure), figure_way(spots, back)),
                                     list(range(2 * spots)))
                    self.assertEqual(figure_beats(spots, back), figure_beats(spots, figure))

    def test_every_span_with_casts_leads_and_chains(self):
        for spots in FLOORS:
            for first, last in spans(spots):
                figure = [[("chain", first, last, 2)], [("cast", first, last)], [("chain", first, last, 3)]]
                back = [[("chain", first, last, 3)], [("lead", first, last)], [("chain", first, last, -2)]]
                self.assertEqual(turned(spots, figure), back)
                self.assertEqual(turned(spots, back), figure)

    def test_what_is_handed_in_stays_and_what_is_told_is_new(self):
        for figure in ([], [[CROSS]], [[STAND], [CROSS, ("cross", 1)]], [[("cast", 0, 1)], [("ring", 0, 1, 3)]]):
            kept = copy.deepcopy(figure)
            told = turned(2, figure)
            again = copy.deepcopy(told)
            for bar in told:
                bar.append(STAND)
            told.append([STAND])
            self.assertEqual(figure, kept)
            self.assertEqual(turned(2, figure), again)

    def test_one_bar_at_several_places_is_told_as_several_lists(self):
        bar = [CROSS]
        told = turned(2, [bar, bar])
        told[0].append(STAND)
        self.assertEqual(told[1], [CROSS])
        self.assertEqual(bar, [CROSS])

    def test_kinds(self):
        for figure in some_figures(3):
            told = turned(3, figure)
            self.assertIsInstance(told, list)
            self.assertTrue(all(isinstance(bar, list) for bar in told))
            self.assertTrue(all(isinstance(call, tuple) for bar in told for call in bar))


class Leads(unittest.TestCase):
    def test_leading_on(self):
        for figure in (
            [[("cast", 0, 1)]],
            [[("lead", 0, 1)]],
            [[("pass", 0, 0), ("pass", 0, 1)]],
            [[("chain", 0, 1, -1)]],
            [[("ring", 0, 1, 2)], [("cross", 0), ("cross", 1)]],
        ):
            self.assertEqual(leads(figure), "")

    def test_parted(self):
        # Nobody is on the other side, then somebody is too.
        self.assertEqual(leads([[("pass", 0, 0)]]), "parted")
        self.assertEqual(leads([[("pass", 0, 1)]]), "parted")
        self.assertEqual(leads([[("ring", 0, 1, 1)]]), "parted")
        self.assertEqual(leads([[("corner", 0, 0)]]), "parted")
        self.assertEqual(leads([[("corner", 0, 1)]]), "parted")

    def test_stays(self):
        self.assertEqual(leads([]), "stays")
        self.assertEqual(leads([[("stand", 8)]]), "stays")
        self.assertEqual(leads([[("ring", 0, 1, 4)]]), "stays")
        self.assertEqual(leads([[("cross", 0)]]), "stays")
        self.assertEqual(leads([[("cross", 1)]]), "stays")
        self.assertEqual(leads([[("chain", 0, 1, 1)]]), "stays")

    def test_crossed(self):
        self.assertEqual(leads([[("ring", 0, 1, 2)]]), "crossed")
        self.assertEqual(leads([[("cast", 0, 1)], [("cross", 0)]]), "crossed")
        self.assertEqual(leads([[("cast", 0, 1)], [("cross", 1)]]), "crossed")

    def test_every_way_on_two_spots(self):
        words = {}
        for bars in itertools.product([[call] for call in some_calls(2)], repeat=3):
            figure = list(bars)
            way = figure_by_hand(2, figure)
            spots = [place // 2 for place in way]
            words[tuple(way)] = leads(figure)
            if spots[0] != spots[1] or spots[2] != spots[3]:
                due = "parted"
            elif spots[0] == spots[1] == 0 or spots[2] == spots[3] == 1:
                due = "stays"
            elif [place % 2 for place in way] != [0, 1, 0, 1]:
                due = "crossed"
            else:
                due = ""
            self.assertEqual(leads(figure), due, figure)
        self.assertEqual(len(words), 24)
        self.assertEqual([way for way, word in words.items() if word == ""], [(2, 3, 0, 1)])

    def test_refusals(self):
        for bar, error in BAD_BARS:
            self.assertRaises(error, leads, [bar])
            self.assertRaises(error, leads, [[STAND], bar, [], [CROSS, CROSS]])
            self.assertRaises(BadFigure, leads, [bar] * 17)
        self.assertRaises(BadCall, leads, [[("cross", 2)]])
        self.assertRaises(BadCall, leads, [[("cast", 0, 2)]])

    def test_what_is_handed_in_stays(self):
        figure = [[CROSS], [("cast", 0, 1)]]
        leads(figure)
        self.assertEqual(figure, [[CROSS], [("cast", 0, 1)]])

    def test_names(self):
        self.assertEqual(leads(figure=[[("cast", 0, 1)]]), "")


if __name__ == "__main__":
    unittest.main()
