"""Places of a floor, the rings of its spots, and ways from places to places."""

from longways.errors import BadCall, BadSpots, BadWay

FEWEST_SPOTS = 2
MOST_SPOTS = 6


def look_spots(spots):
    """Refuses a count of spots that no floor has."""
    if not FEWEST_SPOTS <= spots <= MOST_SPOTS:
        raise BadSpots("a floor has 2 to 6 spots")


def look_way(spots, way):
    """Refuses a list that isn't a way on a floor of so many spots."""
    if sorted(way) != list(range(2 * spots)):
        raise BadWay("a way has each place of the floor just once")


def is_span(spots, first, last):
    """Whether first and last are two spots of the floor, the last one greater."""
    return 0 <= first < last < spots


def ring_places(spots, first, last):
    """The places of the spots first to last in the order in which their ring goes round."""
    look_spots(spots)
    if not is_span(spots, first, last):
        raise BadCall("a ring needs two spots of the floor, the last one greater")
    down = [2 * spot + 1 for spot in range(first, last + 1)]
    up = [2 * spot for spot in range(last, first, -1)]
    return [2 * first] + down + up


def still(spots):
    """The way by which nobody goes."""
    look_spots(spots)
    return list(range(2 * spots))


def then(spots, one, other):
    """The way that one way and the other one behind it make together."""
    look_spots(spots)
    look_way(spots, one)
    look_way(spots, other)
    return [other[place] for place in one]


def undone(spots, way):
    """The way that brings everybody back to where they were ahead of this one."""
    look_spots(spots)
    look_way(spots, way)
    way_back = still(spots)
    for place, goal in enumerate(way):
        way_back[goal] = place
    return way_back
