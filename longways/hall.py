"""The hall: a book of figures, sets with logs that may be mended, and deeds that may be taken back."""

from longways.errors import BadNumber, Fixed, Full, Known, Last, NoCouple, NoEntry
from longways.errors import NoFigure, NoSet, NotDanced, NothingLeft, Same, Taken
from longways.figures import figure_way
from longways.sets import MOST, DanceSet, look_name, look_size
from longways.times import times

MOST_FIGURES = 12
MOST_SETS = 8


def frozen(bars):
    """Bars as tuples throughout, so that nobody changes them from outside."""
    return tuple([tuple([tuple(call) for call in bar]) for bar in bars])


# Each of these does a deed in a hall unless it is refused, and tells what the hall needs to take it back.


def do_write(hall, deed):
    """A new figure; tells the book as it was."""
    name, spots, bars = deed[1:]
    look_name(name)
    if name in hall.book:
        raise Known("there is a figure of this name")
    way = figure_way(spots, bars)
    if len(hall.book) == MOST_FIGURES:
        raise Full("the book has no room for another figure")
    return hall.note(name, spots, bars, way)


def do_alter(hall, deed):
    """Other bars for a figure; tells the book as it was."""
    name, bars = deed[1:]
    spots = hall.written(name)[0]
    return hall.note(name, spots, bars, figure_way(spots, bars))


def do_erase(hall, deed):
    """A figure is gone; tells the book as it was."""
    name = deed[1]
    hall.written(name)
    before = hall.book
    hall.book = {other: page for other, page in before.items() if other != name}
    return before


def do_form(hall, deed):
    """A new set; tells the sets as they were."""
    name, kind, couples = deed[1:]
    look_name(name)
    if name in hall.formed:
        raise Known("there is a set of this name")
    look_size(kind, len(couples))
    if len(hall.formed) == MOST_SETS:
        raise Full("the hall has no room for another set")
    for couple in couples:
        look_name(couple)
    if len(set(couples)) < len(couples) or [couple for couple in couples if hall.stands(couple)]:
        raise Taken("a couple stands in a set already, or twice here")
    before = hall.formed
    hall.formed = dict(before)
    hall.formed[name] = DanceSet(kind, couples)
    return before


def dance_row(hall, group, figure, many):
    """The row of the log for a dance of a set; refuses the figure, then the count."""
    spots, bars, way = hall.written(figure)
    group.look_dance(spots, way)
    if many < 1:
        raise BadNumber("a set dances once or more often")
    # The figure may be altered or erased later on, so the row keeps the way that is done by it now.
    return (("dance", figure, many), times(spots, way, many))


def do_dance(hall, deed):
    """A dance at the end of the log; tells its place there."""
    name, figure, many = deed[1:]
    group = hall.group(name)
    return group.put(len(group.rows), dance_row(hall, group, figure, many))


def do_join(hall, deed):
    """A couple comes in; tells the entry's place in the log."""
    name, couple = deed[1:]
    group = hall.twos(name)
    look_name(couple)
    if hall.stands(couple):
        raise Taken("the couple stands in a set already")
    if len(group.members) == MOST["twos"]:
        raise Full("the set has no room for another couple")
    return group.put_last(("join", couple))


def do_leave(hall, deed):
    """A couple steps out; tells the entry's place in the log."""
    name, couple = deed[1:]
    group = hall.twos(name)
    if couple not in group.members:
        raise NoCouple("the couple doesn't stand in this set")
    if len(group.members) == 1:
        raise Last("the only couple of a set can't step out")
    return group.put_last(("leave", couple))


def do_swap(hall, deed):
    """Two couples exchange their spots; tells the entry's place in the log."""
    name, one, other = deed[1:]
    group = hall.twos(name)
    if one not in group.members or other not in group.members:
        raise NoCouple("a couple doesn't stand in this set")
    if one == other:
        raise Same("a couple doesn't exchange with itself")
    return group.put_last(("swap", one, other))


def do_late(hall, deed):
    """A dance at any place of the log; tells this place."""
    name, at, figure, many = deed[1:]
    group = hall.group(name)
    if not 0 <= at <= len(group.rows):
        raise NoEntry("the log has no such place")
    return group.put(at, dance_row(hall, group, figure, many))


def do_scratch(hall, deed):
    """A dance is struck from the log; tells its row there."""
    name, at = deed[1:]
    group = hall.group(name)
    if not 0 <= at < len(group.rows):
        raise NoEntry("the log has no such entry")
    if group.entries()[at][0] != "dance":
        raise NotDanced("the entry is no dance")
    return group.strike(at)


def do_close(hall, deed):
    """A set is over; tells the sets as they were."""
    name = deed[1]
    hall.group(name)
    before = hall.formed
    hall.formed = {other: group for other, group in before.items() if other != name}
    return before


DEEDS = {
    "write": do_write, "alter": do_alter, "erase": do_erase, "form": do_form, "dance": do_dance, "join": do_join,
    "leave": do_leave, "swap": do_swap, "late": do_late, "scratch": do_scratch, "close": do_close,
}


class Hall:
    """A hall; it keeps each deed that stands beside what is needed to take it back, and those taken back."""

    def __init__(self):
        self.book = {}
        self.formed = {}
        self.past = []
        self.ahead = []

    def __eq__(self, other):
        return isinstance(other, Hall) and self.deeds() == other.deeds()

    def __len__(self):
        return len(self.formed)

    def __str__(self):
        return ", ".join([f"{name} ({group.manner})" for name, group in self.formed.items()])

    def __repr__(self):
        return f"Hall({len(self.book)} figures, {len(self.formed)} sets)"

    def written(self, name):
        """A figure of the book: its spots, its bars and the way that it does."""
        if name not in self.book:
            raise NoFigure("there is no figure of this name")
        return self.book[name]

    def note(self, name, spots, bars, way):
        """Puts a figure into the book, and tells the book as it was."""
        before = self.book
        self.book = dict(before)
        self.book[name] = (spots, bars, way)
        return before

    def group(self, name):
        """The set of a name."""
        if name not in self.formed:
            raise NoSet("there is no set of this name")
        return self.formed[name]

    def twos(self, name):
        """The set by twos of a name."""
        group = self.group(name)
        if group.manner != "twos":
            raise Fixed("in a whole set nobody comes in, steps out or leads on")
        return group

    def stands(self, couple):
        """Whether a couple stands in a set."""
        return couple in [member for group in self.formed.values() for member in group.members]

    def carry_out(self, deed):
        """Does a deed, whether new or again."""
        doing = DEEDS[deed[0]]
        self.past.append((deed, doing(self, deed)))

    def perform(self, deed):
        """Does a new deed, a tuple throughout; what could be done again is let go of, unless it is refused."""
        self.carry_out(deed)
        self.ahead = []

    def restore(self, deed, kept):
        """Makes all as it was ahead of the last deed, by what was kept of it."""
        word = deed[0]
        if word in ("write", "alter", "erase"):
            self.book = kept
        elif word in ("form", "close"):
            self.formed = kept
        elif word == "scratch":
            self.group(deed[1]).put(deed[2], kept)
        else:
            self.group(deed[1]).strike(kept)

    def write(self, name, spots, bars):
        """A new figure."""
        self.perform(("write", name, spots, frozen(bars)))

    def alter(self, name, bars):
        """The figure has these bars from now on."""
        self.perform(("alter", name, frozen(bars)))

    def erase(self, name):
        """The figure is gone from the book."""
        self.perform(("erase", name))

    def form(self, name, kind, couples):
        """A new set."""
        self.perform(("form", name, kind, tuple(couples)))

    def dance(self, name, figure, many=1):
        """The set dances the figure so many times."""
        self.perform(("dance", name, figure, many))

    def join(self, name, couple):
        """The couple comes in at the lower end."""
        self.perform(("join", name, couple))

    def leave(self, name, couple):
        """The couple steps out."""
        self.perform(("leave", name, couple))

    def swap(self, name, one, other):
        """Two couples exchange their spots."""
        self.perform(("swap", name, one, other))

    def late(self, name, at, figure, many=1):
        """The figure was danced so many times at that place of the log."""
        self.perform(("late", name, at, figure, many))

    def scratch(self, name, at):
        """The dance at that place is struck from the log."""
        self.perform(("scratch", name, at))

    def close(self, name):
        """The set is over."""
        self.perform(("close", name))

    def back(self):
        """Takes back the last deed that stands, and tells it."""
        if self.past == []:
            raise NothingLeft("no deed stands that could be taken back")
        deed, kept = self.past.pop()
        self.restore(deed, kept)
        self.ahead.append(deed)
        return deed

    def again(self):
        """Does again the deed that was taken back last, and tells it."""
        if self.ahead == []:
            raise NothingLeft("no deed was taken back that could be done again")
        deed = self.ahead.pop()
        self.carry_out(deed)
        return deed

    def twin(self):
        """A hall that stands alike in all and then goes its own way."""
        other = Hall()
        for deed in self.deeds() + self.undone():
            other.perform(deed)
        for deed in self.ahead:
            other.back()
        return other

    def deeds(self):
        """The standing deeds, the first one first."""
        return [deed for deed, kept in self.past]

    def undone(self):
        """The deeds that could be done again, the next one first."""
        return self.ahead[::-1]

    def figures(self):
        """The names of the figures, in the order in which they were written."""
        return list(self.book)

    def sets(self):
        """The names of the sets, in the order in which they were formed."""
        return list(self.formed)

    def figure(self, name):
        """The spots of a figure and its bars."""
        spots, bars, way = self.written(name)
        return (spots, [list(bar) for bar in bars])

    def kind(self, name):
        """The kind of a set."""
        return self.group(name).manner

    def rounds(self, name):
        """How many times a set has danced."""
        return self.group(name).danced()

    def log(self, name):
        """The entries of a set's log, the eldest first."""
        return self.group(name).entries()

    def standing(self, name):
        """Who stands at each place of a set: pairs of a couple and left or right."""
        return self.group(name).places_now()

    def column(self, name):
        """The couples of a set by twos, the upmost first."""
        return self.twos(name).column_now()

    def next_pairs(self, name):
        """The pairs of couples that dance in the next round, from the upper end on."""
        return self.twos(name).pairs_now()

    def waiting(self, name):
        """The couples that stand out in the next round, from the upper end on."""
        return self.twos(name).out_now()

    def met(self, name, one, other):
        """In how many rounds of a set's log two couples danced together."""
        group = self.twos(name)
        if not group.was_in(one) or not group.was_in(other):
            raise NoCouple("a couple never was in this set")
        if one == other:
            raise Same("a couple doesn't dance with itself")
        return group.meetings(one, other)
