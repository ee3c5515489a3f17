"""Inputs that several test files share, and calls, rounds and halls reckoned by hand."""

import collections
import itertools
import random
import unittest

from longways.errors import DanceError
from longways.hall import Hall

FLOORS = (2, 3, 4, 5, 6)
HUGE = 10 ** 60 - 1
BAD_SPOTS = (1, 7, 0, -1, -2, 8, 64, HUGE, -HUGE, 10 ** 59, -10 ** 59)
MANIES = tuple(many for many in range(-64, 65) if many != 0)


def spans(spots):
    """All pairs of spots of a floor, the last one greater."""
    return [(first, last) for first in range(spots) for last in range(first + 1, spots)]


def bad_spans(spots):
    """Pairs that aren't two spots of the floor, the last one greater."""
    alike = [(spot, spot) for spot in range(-1, spots + 1)]
    turned_about = [(last, first) for first, last in spans(spots)]
    one_out = [(-1, spots - 1), (-1, 0), (0, spots), (spots - 1, spots), (-1, spots)]
    far_away = [(0, HUGE), (-HUGE, 1), (-HUGE, HUGE), (HUGE, -HUGE), (HUGE - 1, HUGE), (-HUGE, 1 - HUGE)]
    return alike + turned_about + one_out + far_away


def bad_ways(spots):
    """Lists that aren't ways of the floor, told with what is wrong with each."""
    places = list(range(2 * spots))
    return {
        "a place twice": [0] + places[:-1],
        "the first place twice and the last one left out": places[:-1] + [0],
        "one left out at the end": places[:-1],
        "one left out at the beginning": places[1:],
        "one beyond": places[:-1] + [2 * spots],
        "one far beyond": places[:-1] + [HUGE],
        "one below nought": [-1] + places[1:],
        "the last one told from the end": places[:-1] + [-1],
        "one far below nought": [-HUGE] + places[1:],
        "one more": places + [2 * spots],
        "one more that is there already": places + [0],
        "none": [],
        "two hundred": list(range(200)),
        "a way of the next larger floor": list(range(2 * spots + 2)),
        "a way of the next smaller floor": list(range(2 * spots - 2)),
    }


def good_ways(spots):
    """Some ways of the floor: that of nobody, a turn about, a shift, and two that mix lines."""
    places = list(range(2 * spots))
    by_threes = sorted(places, key=lambda place: (place % 3, place))
    return [places, places[::-1], places[1:] + places[:1], by_threes, places[::2] + places[1::2]]


def good_calls(spots):
    """Every call that a floor allows."""
    calls = [("stand", many) for many in range(1, 65)]
    calls += [("cross", spot) for spot in range(spots)]
    for first, last in spans(spots):
        calls += [(word, first, last) for word in ("cast", "lead")]
        calls += [(word, first, last, many) for word in ("ring", "chain") for many in MANIES]
    for spot in range(spots - 1):
        calls += [(word, spot, side) for word in ("pass", "corner") for side in (0, 1)]
    return calls


def one_step(first, last, spot, side, onward):
    """From one place of the ring of these spots to the next one, or back to the one ahead."""
    if side == (1 if onward else 0):
        return (spot + 1, side) if spot < last else (spot, 1 - side)
    return (spot - 1, side) if spot > first else (spot, 1 - side)


def steps_on(first, last, many, spot, side):
    """Where so many steps round the ring of these spots lead, gone one by one."""
    for step in range(abs(many)):
        spot, side = one_step(first, last, spot, side, many > 0)
    return spot, side


def ring_goal(spot, side, first, last, many):
    return steps_on(first, last, many, spot, side) if first <= spot <= last else (spot, side)


def chain_goal(spot, side, first, last, many):
    # Right places are counted from the ring's beginning on, left ones back from it.
    at = spot - first + 1 if side == 1 else (first - spot) % (2 * (last - first + 1))
    return ring_goal(spot, side, first, last, many if at % 2 == 0 else -many)


def cross_goal(spot, side, at):
    return (spot, 1 - side) if spot == at else (spot, side)


def pass_goal(spot, side, at, on):
    if side == on and spot in (at, at + 1):
        return 2 * at + 1 - spot, side
    return spot, side


def corner_goal(spot, side, at, on):
    if (spot, side) == (at, on):
        return at + 1, 1 - on
    if (spot, side) == (at + 1, 1 - on):
        return at, on
    return spot, side


def cast_goal(spot, side, first, last):
    if spot == first:
        return last, side
    return (spot - 1, side) if first < spot <= last else (spot, side)


def lead_goal(spot, side, first, last):
    if spot == last:
        return first, side
    return (spot + 1, side) if first <= spot < last else (spot, side)


def stand_goal(spot, side, many):
    return spot, side


GOALS = {
    "ring": ring_goal, "chain": chain_goal, "cross": cross_goal, "pass": pass_goal,
    "corner": corner_goal, "cast": cast_goal, "lead": lead_goal, "stand": stand_goal,
}


def way_by_hand(spots, call):
    """The way of a call, each dancer followed by spot and side."""
    goals = [GOALS[call[0]](place // 2, place % 2, *call[1:]) for place in range(2 * spots)]
    return [2 * spot + side for spot, side in goals]


def beats_by_hand(call):
    """How long a call lasts."""
    word = call[0]
    if word in ("ring", "chain"):
        return 2 * abs(call[3])
    if word in ("cast", "lead"):
        return 2 * (call[2] - call[1])
    return {"cross": 2, "pass": 2, "corner": 3, "stand": call[1]}[word]


def places_by_hand(spots, call):
    """The set of places that a call takes."""
    if call[0] in ("ring", "chain", "cast", "lead"):
        return {2 * spot + side for spot in range(call[1], call[2] + 1) for side in (0, 1)}
    return {place for place, goal in enumerate(way_by_hand(spots, call)) if goal != place}


def behind(one, other):
    """One way and the other one behind it."""
    return [other[place] for place in one]


def pairs_by_hand(many, phase):
    """The pairs of spots that dance, found by going down the column."""
    pairs, spot = [], phase
    while spot + 1 < many:
        pairs.append((spot, spot + 1))
        spot += 2
    return pairs


def one_round(column, phase):
    """The column behind one round, and the pairs of couples that danced in it."""
    column = list(column)
    couples = []
    for upper, lower in pairs_by_hand(len(column), phase):
        couples.append({column[upper], column[lower]})
        column[upper], column[lower] = column[lower], column[upper]
    return column, couples


ON = [[("cast", 0, 1)]]
PARTED = [[("pass", 0, 0)]]
STAYS = [[("cross", 1)]]
CROSSED = [[("ring", 0, 1, 2)]]
HEY = [[("ring", 0, 2, 1), ("stand", 8)], [("corner", 1, 0), ("cross", 0)], [("chain", 0, 1, -3)]]
BAD_NAMES = (
    "", "abcdefghi", "a" * 200, "A", "aB", "a1", "1", "a b", " a", "a ", " ", "a\n", "\na", "\n", "a:b", "a-b", "-",
    "`", "{", "@", "[",
)


def do(hall, deed):
    """Does a deed by the method of its name."""
    return getattr(hall, deed[0])(*deed[1:])


def hall_of(*deeds):
    """A hall in which these deeds were done."""
    hall = Hall()
    for deed in deeds:
        do(hall, deed)
    return hall


def book_and_sets(deeds):
    """Whither standing deeds lead: the figures by name, and the sets with each entry of their logs beside its bars."""
    book, sets = {}, {}
    for word, name, *things in deeds:
        if word == "write":
            book[name] = tuple(things)
        elif word == "alter":
            book[name] = (book[name][0], things[0])
        elif word == "erase":
            del book[name]
        elif word == "form":
            sets[name] = (things[0], list(things[1]), [])
        elif word == "close":
            del sets[name]
        elif word == "scratch":
            del sets[name][2][things[0]]
        elif word == "late":
            sets[name][2].insert(things[0], (("dance", *things[1:]), book[things[1]][1]))
        else:
            sets[name][2].append(((word, *things), book[things[0]][1] if word == "dance" else None))
    return book, sets


def change_by_hand(column, word, one, other=None):
    """A column behind a couple that comes in or steps out, or two that exchange."""
    column = list(column)
    if word == "join":
        column.append(one)
    elif word == "leave":
        column.remove(one)
    else:
        upper, lower = column.index(one), column.index(other)
        column[upper], column[lower] = other, one
    return column


def twos_by_hand(couples, log):
    """The column behind a log gone through round by round, the phase, and how often each two danced together."""
    column, phase, meetings = list(couples), 0, collections.Counter()
    for entry, bars in log:
        if entry[0] != "dance":
            column = change_by_hand(column, *entry)
            continue
        # Behind 2n rounds all is as it was, and each two have met twice; so only what is left over is walked.
        turns, rest = divmod(entry[2], 2 * len(column))
        for two in itertools.combinations(column, 2):
            meetings[frozenset(two)] += 2 * turns
        for number in range(rest):
            column, danced = one_round(column, phase)
            meetings.update(map(frozenset, danced))
            phase = 1 - phase
    return column, phase, meetings


def walked(standing, bars):
    """Those who stand at the places behind a figure whose calls are walked one by one."""
    for call in itertools.chain.from_iterable(bars):
        way = way_by_hand(len(standing) // 2, call)
        standing = [standing[way.index(place)] for place in range(len(standing))]
    return standing


def whole_by_hand(couples, log):
    """Who stands where in a whole set behind a log, each dance walked until all are home."""
    standing = [(couple, side) for couple in couples for side in ("left", "right")]
    for (word, figure, many), bars in log:
        passed = [standing]
        while walked(passed[-1], bars) != standing:
            passed.append(walked(passed[-1], bars))
        standing = passed[many % len(passed)]
    return standing


def set_by_hand(kind, couples, log):
    """All that can be asked of a set, as in set_told."""
    entries = [entry for entry, bars in log]
    rounds = sum(entry[2] for entry in entries if entry[0] == "dance")
    if kind == "whole":
        return [kind, rounds, entries, whole_by_hand(couples, log)]
    column, phase, meetings = twos_by_hand(couples, log)
    standing = [(couple, side) for couple in column for side in ("left", "right")]
    pairs = [(column[upper], column[lower]) for upper, lower in pairs_by_hand(len(column), phase)]
    waiting = [couple for couple in column if not any(couple in pair for pair in pairs)]
    ever = sorted({*couples, *(entry[1] for entry in entries if entry[0] == "join")})
    often = {(one, other): meetings[frozenset((one, other))] for one, other in itertools.permutations(ever, 2)}
    return [kind, rounds, entries, standing, column, pairs, waiting, often]


def set_told(hall, name, couples):
    """All that a hall tells of a set, which was formed with these couples."""
    told = [hall.kind(name), hall.rounds(name), hall.log(name), hall.standing(name)]
    if hall.kind(name) == "whole":
        return told
    ever = sorted({*couples, *(entry[1] for entry in hall.log(name) if entry[0] == "join")})
    often = {(one, other): hall.met(name, one, other) for one, other in itertools.permutations(ever, 2)}
    return told + [hall.column(name), hall.next_pairs(name), hall.waiting(name), often]


def told(hall):
    """All that a hall tells, but what it could do again."""
    formed = {deed[1]: deed[3] for deed in hall.deeds() if deed[0] == "form"}
    return {
        "deeds": hall.deeds(), "figures": [(name, hall.figure(name)) for name in hall.figures()],
        "sets": [(name, set_told(hall, name, formed[name])) for name in hall.sets()],
        "len": len(hall), "truth": bool(hall), "str": str(hall), "repr": repr(hall),
    }


def told_by_hand(deeds):
    """What a hall is to tell in which these deeds stand."""
    book, sets = book_and_sets(deeds)
    return {
        "deeds": list(deeds),
        "figures": [(name, (spots, [list(bar) for bar in bars])) for name, (spots, bars) in book.items()],
        "sets": [(name, set_by_hand(*row)) for name, row in sets.items()],
        "len": len(sets), "truth": len(sets) > 0,
        "str": ", ".join(name + " (" + kind + ")" for name, (kind, couples, log) in sets.items()),
        "repr": "Hall(" + str(len(book)) + " figures, " + str(len(sets)) + " sets)",
    }


SOME_FIGURES = (
    (2, ON), (2, PARTED), (2, STAYS), (2, CROSSED), (2, [[("lead", 0, 1)]]), (2, []), (3, HEY), (3, [[("cast", 0, 2)]]),
    (4, [[("ring", 0, 3, 1)], [("pass", 1, 0), ("pass", 1, 1)]]), (6, [[("chain", 0, 5, 5)], [("cast", 2, 4)]]),
)
SOME_COUPLES = ["c" + letter for letter in "abcdefghijklmnopqrstuvwx"]
OPENING = (
    ("write", "on", 2, ON), ("write", "hey", 3, HEY), ("write", "two", 2, CROSSED),
    ("form", "line", "twos", SOME_COUPLES[:5]), ("form", "ring", "whole", SOME_COUPLES[5:8]),
    ("form", "duo", "whole", SOME_COUPLES[8:10]),
)
WORDS = {
    "write": 1, "alter": 2, "erase": 1, "form": 2, "close": 1,
    "dance": 8, "join": 6, "leave": 3, "swap": 4, "late": 8, "scratch": 4,
}


def deed_of_a_set(chance, hall, word, name):
    """A deed of a set that there is."""
    inside = [couple for couple, side in hall.standing(name)]
    spots = 2 if hall.kind(name) == "twos" else len(inside) // 2
    fitting = [figure for figure in hall.figures() if hall.figure(figure)[0] == spots]
    figure = chance.choice(fitting or ["none"])
    many = chance.choice((1, 1, 2, 3, 5, 8, 13, 24, 100, HUGE, 10 ** 59 + 7, 0))
    at = chance.randint(-1, len(hall.log(name)) + 1)
    return {
        "close": ("close", name), "dance": ("dance", name, figure, many), "late": ("late", name, at, figure, many),
        "join": ("join", name, chance.choice(SOME_COUPLES)), "leave": ("leave", name, chance.choice(inside)),
        "swap": ("swap", name, chance.choice(inside), chance.choice(inside)), "scratch": ("scratch", name, at),
    }[word]


def any_deed(chance, hall):
    """A deed that may or may not be refused, by a row of chances that is the same each time."""
    word, = chance.choices(list(WORDS), WORDS.values())
    spots, bars = chance.choice(SOME_FIGURES)
    figure = chance.choice(hall.figures() or ["none"])
    if word == "write":
        return ("write", chance.choice("pqrstuvwxyzab"), spots, bars)
    if word in ("alter", "erase"):
        return ("alter", figure, bars) if word == "alter" else ("erase", figure)
    if word == "form" or not hall.sets():
        kind, most = chance.choice((("twos", 13), ("whole", 7)))
        return ("form", chance.choice("jklmnopqr"), kind, chance.sample(SOME_COUPLES, chance.randint(0, most)))
    return deed_of_a_set(chance, hall, word, chance.choice(hall.sets()))


def any_halls(seeds, many):
    """Halls behind each of so many deeds, some of them refused; with each the deed and whether it was done."""
    for seed in seeds:
        chance = random.Random(seed)
        hall = hall_of(*OPENING)
        for number in range(many):
            deed, before = any_deed(chance, hall), len(hall.deeds())
            try:
                do(hall, deed)
            except DanceError:
                pass
            yield hall, deed, len(hall.deeds()) > before


class HallCase(unittest.TestCase):
    """Tests that ask a hall for a refusal, behind which all is as it was."""

    def assert_refused(self, error, hall, ask, *things, **fields):
        before = told(hall), hall.undone()
        with self.assertRaises(DanceError, msg=things) as caught:
            ask(*things)
        self.assertIs(type(caught.exception), error, things)
        self.assertEqual({field: getattr(caught.exception, field) for field in fields}, fields, things)
        self.assertEqual((told(hall), hall.undone()), before, things)

    def assert_deed_refused(self, error, hall, *deed, **fields):
        self.assert_refused(error, hall, getattr(hall, deed[0]), *deed[1:], **fields)

    def assert_by_hand(self, hall):
        """What a hall tells is what its standing deeds lead to."""
        self.assertEqual(told(hall), told_by_hand(hall.deeds()))
