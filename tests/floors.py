"""Inputs that several test files share."""

FLOORS = (2, 3, 4, 5, 6)
HUGE = 10 ** 60 - 1
BAD_SPOTS = (1, 7, 0, -1, -2, 8, 64, HUGE, -HUGE, 10 ** 59, -10 ** 59)


def spans(spots):
    """All pairs of spots of a floor, the last one greater."""
    return [(first, last) for first in range(spots) for last in range(first + 1, spots)]


def bad_spans(spots):
    """Pairs that aren't two spots of the floor, the last one greater."""
    alike = [(spot, spot) for spot in range(-1, spots + 1)]
    turned_about = [(last, first) for first, last in spans(spots)]
    one_out = [(-1, spots - 1), (-1, 0), (0, spots), (spots - 1, spots), (-1, spots)]
    far_away = [(0, HUGE), (-HUGE, 1), (-HUGE, HUGE), (HUGE, -HUGE), (HUGE - 1, HUGE), (-HUGE, 1 - HUGE)]
    return alike + turned_about + one_out + far_away


def bad_ways(spots):
    """Lists that aren't ways of the floor, told with what is wrong with each."""
    places = list(range(2 * spots))
    return {
        "a place twice": [0] + places[:-1],
        "the first place twice and the last one left out": places[:-1] + [0],
        "one left out at the end": places[:-1],
        "one left out at the beginning": places[1:],
        "one beyond": places[:-1] + [2 * spots],
        "one far beyond": places[:-1] + [HUGE],
        "one below nought": [-1] + places[1:],
        "the last one told from the end": places[:-1] + [-1],
        "one far below nought": [-HUGE] + places[1:],
        "one more": places + [2 * spots],
        "one more that is there already": places + [0],
        "none": [],
        "two hundred": list(range(200)),
        "a way of the next larger floor": list(range(2 * spots + 2)),
        "a way of the next smaller floor": list(range(2 * spots - 2)),
    }


def good_ways(spots):
    """Some ways of the floor: that of nobody, a turn about, a shift, and two that mix lines."""
    places = list(range(2 * spots))
    by_threes = sorted(places, key=lambda place: (place % 3, place))
    return [places, places[::-1], places[1:] + places[:1], by_threes, places[::2] + places[1::2]]
