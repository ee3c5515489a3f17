"""A way done many times: its rings, where it leads behind any count of times, and when all are home."""

from longways.errors import BadNumber
from longways.places import look_spots, look_way, still


def ring_from(way, place):
    """The row of places through which a way leads whoever stands at this one, until they are there again."""
    row = [place]
    while way[row[-1]] != place:
        row.append(way[row[-1]])
    return row


def rings(spots, way):
    """The rings of a way, each from its least place on, told by these."""
    look_spots(spots)
    look_way(spots, way)
    rows = [ring_from(way, place) for place in range(2 * spots)]
    return [row for row in rows if row[0] == min(row)]


def times(spots, way, many=1):
    """The way that a way makes done so many times."""
    rows = rings(spots, way)
    if many < 0:
        raise BadNumber("a way isn't done fewer than nought times")
    goals = still(spots)
    for row in rows:
        for at, place in enumerate(row):
            goals[place] = row[(at + many) % len(row)]
    return goals


def least_common(one, other):
    """The least number that two numbers, 1 or more, both divide."""
    common = one
    while common % other != 0:
        common += one
    return common


def home(spots, way):
    """The least number of times, 1 or more, behind which all are where they were."""
    number = 1
    for row in rings(spots, way):
        number = least_common(number, len(row))
    return number
