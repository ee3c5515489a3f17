"""Calls: whither everybody goes by one, how long it lasts and which places it takes."""

from longways.errors import BadCall
from longways.places import is_span, look_spots, ring_places, still, undone

MOST_MANY = 64

COUNTS = {"ring": 3, "chain": 3, "cross": 1, "pass": 2, "corner": 2, "cast": 2, "lead": 2, "stand": 1}


def numbers_fit(spots, call):
    """Whether the numbers of a call, as many as its word asks for, keep to their bounds on this floor."""
    word = call[0]
    if word == "stand":
        return 1 <= call[1] <= MOST_MANY
    if word == "cross":
        return 0 <= call[1] < spots
    if word in ("pass", "corner"):
        # The next spot takes part as well, so the lowest one of the floor is out.
        return 0 <= call[1] < spots - 1 and call[2] in (0, 1)
    if word in ("cast", "lead"):
        return is_span(spots, call[1], call[2])
    return is_span(spots, call[1], call[2]) and 1 <= abs(call[3]) <= MOST_MANY


def look_call(spots, call):
    """Refuses a wrong count of spots, then what isn't a call on a floor of so many."""
    look_spots(spots)
    if not call or COUNTS.get(call[0]) != len(call) - 1:
        raise BadCall("no call has this word with this count of numbers")
    if not numbers_fit(spots, call):
        raise BadCall("a number of the call is out of its bounds")


def round_way(spots, call):
    """The way of a ring or a chain."""
    first, last, many = call[1:]
    row = ring_places(spots, first, last)
    way = still(spots)
    for at, place in enumerate(row):
        against = call[0] == "chain" and at % 2 == 1
        goal = at - many if against else at + many
        way[place] = row[goal % len(row)]
    return way


def cast_way(spots, first, last):
    """The way by which both of the spot first go down to the spot last and those between come up."""
    way = still(spots)
    for place in range(2 * first + 2, 2 * last + 2):
        way[place] = place - 2
    way[2 * first] = 2 * last
    way[2 * first + 1] = 2 * last + 1
    return way


def exchange_places(call):
    """The two places, rising, of those who exchange in a cross, a pass or a corner."""
    left = 2 * call[1]
    if call[0] == "cross":
        return [left, left + 1]
    side = call[2]
    if call[0] == "pass":
        return [left + side, left + 2 + side]
    return [left + side, left + 3 - side]


def exchange_way(spots, call):
    """The way of a cross, a pass or a corner."""
    way = still(spots)
    one, other = exchange_places(call)
    way[one], way[other] = other, one
    return way


def call_way(spots, call):
    """The way that a call does."""
    look_call(spots, call)
    word = call[0]
    if word == "stand":
        return still(spots)
    if word in ("ring", "chain"):
        return round_way(spots, call)
    if word == "cast":
        return cast_way(spots, call[1], call[2])
    if word == "lead":
        return undone(spots, cast_way(spots, call[1], call[2]))
    return exchange_way(spots, call)


def taken(spots, call):
    """The places that a call takes, rising."""
    look_call(spots, call)
    word = call[0]
    if word == "stand":
        return []
    if word in ("cross", "pass", "corner"):
        return exchange_places(call)
    return list(range(2 * call[1], 2 * call[2] + 2))


def beats(spots, call):
    """How many beats a call lasts."""
    look_call(spots, call)
    word = call[0]
    if word == "stand":
        return call[1]
    if word in ("ring", "chain"):
        return 2 * abs(call[3])
    if word in ("cast", "lead"):
        return 2 * (call[2] - call[1])
    return 3 if word == "corner" else 2


def turned_call(spots, call):
    """The call that stands in the place of this one in a figure turned about."""
    look_call(spots, call)
    word = call[0]
    if word == "cast":
        return ("lead", call[1], call[2])
    if word == "lead":
        return ("cast", call[1], call[2])
    # A chain by an odd number of places is an exchange of pairs, so it undoes itself.
    if word == "ring" or word == "chain" and call[3] % 2 == 0:
        return (word, call[1], call[2], -call[3])
    return call
