"""Bars and figures: whither everybody goes by one, how long it lasts, and whether it leads a set on."""

from longways.calls import beats, call_way, taken, turned_call
from longways.errors import BadBar, BadFigure, Clash
from longways.places import look_spots, still, then

MOST_CALLS = 4
MOST_BARS = 16


def look_bar(spots, bar):
    """Refuses a count of calls that no bar has, then what isn't a call, then a place that two calls take."""
    look_spots(spots)
    if not 1 <= len(bar) <= MOST_CALLS:
        raise BadBar("a bar has 1 to 4 calls")
    # To ask for the places of a wrong call refuses it, so that comes ahead of any clash.
    places = sorted([place for call in bar for place in taken(spots, call)])
    for place, further in zip(places, places[1:]):
        if place == further:
            raise Clash(place)


def look_figure(spots, figure):
    """Refuses a figure of too many bars, then the first bar that is refused."""
    look_spots(spots)
    if len(figure) > MOST_BARS:
        raise BadFigure("a figure has at most 16 bars")
    for bar in figure:
        look_bar(spots, bar)


def row_way(spots, ways):
    """The way that a row of ways makes, one behind the other."""
    whole = still(spots)
    for way in ways:
        whole = then(spots, whole, way)
    return whole


def bar_way(spots, bar):
    """The way that a bar does."""
    look_bar(spots, bar)
    # No place is taken twice, so the calls lead at once whither they lead one behind the other.
    return row_way(spots, [call_way(spots, call) for call in bar])


def bar_beats(spots, bar):
    """How many beats a bar lasts."""
    look_bar(spots, bar)
    return max([beats(spots, call) for call in bar])


def figure_way(spots, figure):
    """The way that a figure does."""
    look_figure(spots, figure)
    return row_way(spots, [bar_way(spots, bar) for bar in figure])


def figure_beats(spots, figure):
    """How many beats a figure lasts."""
    look_figure(spots, figure)
    return sum([bar_beats(spots, bar) for bar in figure])


def turned(spots, figure):
    """The figure turned about, behind which all are where they were ahead of the figure."""
    look_figure(spots, figure)
    return [[turned_call(spots, call) for call in bar] for bar in reversed(figure)]


def leading(way):
    """The empty text where a way on 2 spots leads on, else the first word that tells what bars it."""
    if way == [2, 3, 0, 1]:
        return ""
    # What the two of spot 0 do tells it of both spots: with 2 spots those of spot 1 have the places that are left.
    if way[0] // 2 != way[1] // 2:
        return "parted"
    return "stays" if way[0] // 2 == 0 else "crossed"


def leads(figure):
    """The empty text where a figure on 2 spots leads on, else the first word that tells what bars it."""
    return leading(figure_way(2, figure))
