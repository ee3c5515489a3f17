"""Inputs that several test files share, and calls reckoned by hand."""

FLOORS = (2, 3, 4, 5, 6)
HUGE = 10 ** 60 - 1
BAD_SPOTS = (1, 7, 0, -1, -2, 8, 64, HUGE, -HUGE, 10 ** 59, -10 ** 59)
MANIES = tuple(many for many in range(-64, 65) if many != 0)


def spans(spots):
    """All pairs of spots of a floor, the last one greater."""
    return [(first, last) for first in range(spots) for last in range(first + 1, spots)]


def bad_spans(spots):
    """Pairs that aren't two spots of the floor, the last one greater."""
    alike = [(spot, spot) for spot in range(-1, spots + 1)]
    turned_about = [(last, first) for first, last in spans(spots)]
    one_out = [(-1, spots - 1), (-1, 0), (0, spots), (spots - 1, spots), (-1, spots)]
    far_away = [(0, HUGE), (-HUGE, 1), (-HUGE, HUGE), (HUGE, -HUGE), (HUGE - 1, HUGE), (-HUGE, 1 - HUGE)]
    return alike + turned_about + one_out + far_away


def bad_ways(spots):
    """Lists that aren't ways of the floor, told with what is wrong with each."""
    places = list(range(2 * spots))
    return {
        "a place twice": [0] + places[:-1],
        "the first place twice and the last one left out": places[:-1] + [0],
        "one left out at the end": places[:-1],
        "one left out at the beginning": places[1:],
        "one beyond": places[:-1] + [2 * spots],
        "one far beyond": places[:-1] + [HUGE],
        "one below nought": [-1] + places[1:],
        "the last one told from the end": places[:-1] + [-1],
        "one far below nought": [-HUGE] + places[1:],
        "one more": places + [2 * spots],
        "one more that is there already": places + [0],
        "none": [],
        "two hundred": list(range(200)),
        "a way of the next larger floor": list(range(2 * spots + 2)),
        "a way of the next smaller floor": list(range(2 * spots - 2)),
    }


def good_ways(spots):
    """Some ways of the floor: that of nobody, a turn about, a shift, and two that mix lines."""
    places = list(range(2 * spots))
    by_threes = sorted(places, key=lambda place: (place % 3, place))
    return [places, places[::-1], places[1:] + places[:1], by_threes, places[::2] + places[1::2]]


def good_calls(spots):
    """Every call that a floor allows."""
    calls = [("stand", many) for many in range(1, 65)]
    calls += [("cross", spot) for spot in range(spots)]
    for first, last in spans(spots):
        calls += [(word, first, last) for word in ("cast", "lead")]
        calls += [(word, first, last, many) for word in ("ring", "chain") for many in MANIES]
    for spot in range(spots - 1):
        calls += [(word, spot, side) for word in ("pass", "corner") for side in (0, 1)]
    return calls


def one_step(first, last, spot, side, onward):
    """From one place of the ring of these spots to the next one, or back to the one ahead."""
    if side == (1 if onward else 0):
        return (spot + 1, side) if spot < last else (spot, 1 - side)
    return (spot - 1, side) if spot > first else (spot, 1 - side)


def steps_on(first, last, many, spot, side):
    """Where so many steps round the ring of these spots lead, gone one by one."""
    for step in range(abs(many)):
        spot, side = one_step(first, last, spot, side, many > 0)
    return spot, side


def ring_goal(spot, side, first, last, many):
    return steps_on(first, last, many, spot, side) if first <= spot <= last else (spot, side)


def chain_goal(spot, side, first, last, many):
    # Right places are counted from the ring's beginning on, left ones back from it.
    at = spot - first + 1 if side == 1 else (first - spot) % (2 * (last - first + 1))
    return ring_goal(spot, side, first, last, many if at % 2 == 0 else -many)


def cross_goal(spot, side, at):
    return (spot, 1 - side) if spot == at else (spot, side)


def pass_goal(spot, side, at, on):
    if side == on and spot in (at, at + 1):
        return 2 * at + 1 - spot, side
    return spot, side


def corner_goal(spot, side, at, on):
    if (spot, side) == (at, on):
        return at + 1, 1 - on
    if (spot, side) == (at + 1, 1 - on):
        return at, on
    return spot, side


def cast_goal(spot, side, first, last):
    if spot == first:
        return last, side
    return (spot - 1, side) if first < spot <= last else (spot, side)


def lead_goal(spot, side, first, last):
    if spot == last:
        return first, side
    return (spot + 1, side) if first <= spot < last else (spot, side)


def stand_goal(spot, side, many):
    return spot, side


GOALS = {
    "ring": ring_goal, "chain": chain_goal, "cross": cross_goal, "pass": pass_goal,
    "corner": corner_goal, "cast": cast_goal, "lead": lead_goal, "stand": stand_goal,
}


def way_by_hand(spots, call):
    """The way of a call, each dancer followed by spot and side."""
    goals = [GOALS[call[0]](place // 2, place % 2, *call[1:]) for place in range(2 * spots)]
    return [2 * spot + side for spot, side in goals]


def beats_by_hand(call):
    """How long a call lasts."""
    word = call[0]
    if word in ("ring", "chain"):
        return 2 * abs(call[3])
    if word in ("cast", "lead"):
        return 2 * (call[2] - call[1])
    return {"cross": 2, "pass": 2, "corner": 3, "stand": call[1]}[word]


def places_by_hand(spots, call):
    """The set of places that a call takes."""
    if call[0] in ("ring", "chain", "cast", "lead"):
        return {2 * spot + side for spot in range(call[1], call[2] + 1) for side in (0, 1)}
    return {place for place, goal in enumerate(way_by_hand(spots, call)) if goal != place}


def behind(one, other):
    """One way and the other one behind it."""
    return [other[place] for place in one]
