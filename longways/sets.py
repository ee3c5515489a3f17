"""Sets: couples as they were formed, the log of what they did since, and where everybody stands behind it."""

from longways.columns import after, dancing, met, standing_out
from longways.errors import BadKind, BadName, Few, Full, NotOn, WrongSize
from longways.figures import leading, row_way
from longways.places import undone

LETTERS = "abcdefghijklmnopqrstuvwxyz"
LONGEST_NAME = 8
FEWEST = {"twos": 1, "whole": 2}
MOST = {"twos": 12, "whole": 6}
SIDES = ("left", "right")


def is_name(text):
    """Whether a text is 1 to 8 small letters."""
    return 1 <= len(text) <= LONGEST_NAME and not [sign for sign in text if sign not in LETTERS]


def look_name(name):
    """Refuses what can't be the name of a figure, a set or a couple."""
    if not is_name(name):
        raise BadName("a name is 1 to 8 small letters")


def look_size(kind, many):
    """Refuses a kind that there isn't, then too few couples for it, then too many."""
    if kind not in MOST:
        raise BadKind("a set is of the kind twos or whole")
    if many < FEWEST[kind]:
        raise Few("a set of this kind needs more couples")
    if many > MOST[kind]:
        raise Full("a set of this kind has no room for so many couples")


def on_both_sides(couples):
    """The left and the right one of each couple, spot by spot."""
    return [(couple, side) for couple in couples for side in SIDES]


def changed(column, entry):
    """The column behind an entry by which a couple comes in or steps out, or two exchange their spots."""
    word = entry[0]
    if word == "join":
        return column + [entry[1]]
    if word == "leave":
        return [couple for couple in column if couple != entry[1]]
    one, other = entry[1:]
    exchanged = {one: other, other: one}
    return [exchanged.get(couple, couple) for couple in column]


class DanceSet:
    """A set of a kind: the couples as it was formed, those who are in it now, and the rows of its log.

    A row is a pair of an entry of the log and the way that all do by it, None where it is no dance.
    """

    def __init__(self, manner, couples):
        self.manner = manner
        self.first = list(couples)
        self.members = list(couples)
        self.rows = []

    def look_dance(self, spots, way):
        """Refuses a figure of another size than the set's, then by twos one that doesn't lead on."""
        by_twos = self.manner == "twos"
        if spots != (2 if by_twos else len(self.first)):
            raise WrongSize("the figure is on another count of spots")
        word = leading(way) if by_twos else ""
        if word != "":
            raise NotOn(word)

    def put(self, at, row):
        """Puts a row into the log, and tells its place there."""
        self.rows.insert(at, row)
        entry = row[0]
        if entry[0] == "join":
            self.members.append(entry[1])
        if entry[0] == "leave":
            self.members.remove(entry[1])
        return at

    def put_last(self, entry):
        """Puts an entry that is no dance to the end of the log, and tells its place there."""
        return self.put(len(self.rows), (entry, None))

    def strike(self, at):
        """Takes a row out of the log as if it had never been there, and tells it."""
        row = self.rows.pop(at)
        entry = row[0]
        if entry[0] == "join":
            self.members.remove(entry[1])
        if entry[0] == "leave":
            self.members.append(entry[1])
        return row

    def entries(self):
        """The entries of the log, the eldest first."""
        return [entry for entry, way in self.rows]

    def danced(self):
        """How many times the set has danced."""
        return sum([entry[2] for entry in self.entries() if entry[0] == "dance"])

    def stretches(self):
        """By twos: each column that danced unchanged, its phase and its count of rounds, the last one until now."""
        column, phase, rounds = self.first, 0, 0
        told = []
        for entry in self.entries():
            if entry[0] == "dance":
                rounds += entry[2]
            else:
                told.append((column, phase, rounds))
                column = changed(after(column, phase, rounds), entry)
                phase = (phase + rounds) % 2
                rounds = 0
        return told + [(column, phase, rounds)]

    def column_now(self):
        """By twos: the couples, the upmost first."""
        column, phase, rounds = self.stretches()[-1]
        return after(column, phase, rounds)

    def pairs_now(self):
        """By twos: the pairs of couples that dance in the next round, from the upper end on."""
        column = self.column_now()
        return [(column[upper], column[lower]) for upper, lower in dancing(len(column), self.danced() % 2)]

    def out_now(self):
        """By twos: the couples that stand out in the next round, from the upper end on."""
        column = self.column_now()
        return [column[spot] for spot in standing_out(len(column), self.danced() % 2)]

    def places_now(self):
        """Who stands at each place: pairs of a couple and a side of it."""
        if self.manner == "twos":
            return on_both_sides(self.column_now())
        formed = on_both_sides(self.first)
        spots = len(self.first)
        whither = row_way(spots, [way for entry, way in self.rows])
        return [formed[place] for place in undone(spots, whither)]

    def was_in(self, couple):
        """Whether a couple is or was in the set, as it was formed or by its log."""
        return couple in self.first or ("join", couple) in self.entries()

    def meetings(self, one, other):
        """By twos: in how many rounds of the log two couples danced together."""
        many = 0
        for column, phase, rounds in self.stretches():
            if one in column and other in column:
                many += met(len(column), phase, column.index(one), column.index(other), rounds)
        return many
