"""The desk: lines that are said to a hall, and its answers."""

from longways.errors import BadBar, BadCall, BadFigure, BadNumber, BadSpots, BadText, Clash, Few, Fixed, Full, Known
from longways.errors import Last, NoCouple, NoEntry, NoFigure, NoSet, NotDanced, NothingLeft, NotOn, Same, Taken
from longways.errors import WrongSize
from longways.figures import leads
from longways.hall import Hall
from longways.pages import deed_text, read_deed
from longways.sets import is_name

NO_LINE = "no line"


def told(things):
    """Several things with a blank between."""
    return " ".join(things) if len(things) > 0 else "none"


def told_pairs(pairs):
    """Several pairs with a blank between, and a colon between the two of each."""
    return told([f"{one}:{other}" for one, other in pairs])


def tell_back(hall, names):
    """Takes a deed back, and tells it."""
    return deed_text(hall.back())


def tell_again(hall, names):
    """Does a deed again, and tells it."""
    return deed_text(hall.again())


def tell_sets(hall, names):
    """The names of the sets."""
    return told(hall.sets())


def tell_figures(hall, names):
    """The names of the figures."""
    return told(hall.figures())


def tell_column(hall, names):
    """The couples of a set, the upmost first."""
    return told(hall.column(names[0]))


def tell_waiting(hall, names):
    """The couples that stand out in the next round."""
    return told(hall.waiting(names[0]))


def tell_standing(hall, names):
    """Who stands at each place of a set."""
    return told_pairs(hall.standing(names[0]))


def tell_next(hall, names):
    """The pairs of couples that dance in the next round."""
    return told_pairs(hall.next_pairs(names[0]))


def tell_rounds(hall, names):
    """How many times a set has danced."""
    return str(hall.rounds(names[0]))


def tell_met(hall, names):
    """How often two couples of a set danced together."""
    return str(hall.met(names[0], names[1], names[2]))


def tell_leads(hall, names):
    """Whether a figure leads on, or what bars it."""
    spots, figure = hall.figure(names[0])
    if spots != 2:
        raise WrongSize("only a figure on 2 spots leads on")
    word = leads(figure)
    return "on" if word == "" else word


QUESTIONS = {
    "back": tell_back, "again": tell_again, "sets": tell_sets, "figures": tell_figures, "column": tell_column,
    "waiting": tell_waiting, "standing": tell_standing, "next": tell_next, "rounds": tell_rounds, "met": tell_met,
    "leads": tell_leads,
}
# How many names stand behind the word.
NAMES = {
    "back": 0, "again": 0, "sets": 0, "figures": 0, "column": 1, "waiting": 1, "standing": 1, "next": 1, "rounds": 1,
    "met": 3, "leads": 1,
}


def do_written(hall, line):
    """Does a deed that is said as it is written."""
    try:
        deed = read_deed(line)
    except BadText:
        return NO_LINE
    hall.perform(deed)
    return "done"


def answer(hall, line):
    """The answer to a line, unless it is refused."""
    word, *names = line.split(" ")
    if NAMES.get(word) != len(names) or [name for name in names if not is_name(name)]:
        return do_written(hall, line)
    question = QUESTIONS[word]
    return question(hall, names)


# A refusal is told by its class's name, so each is taken by itself; no other ones come from what is said at a desk.


def answer_of_book(hall, line):
    """The answer to a line, also where figures, counts or taking back are refused."""
    try:
        return answer(hall, line)
    except BadSpots:
        return "no BadSpots"
    except BadFigure:
        return "no BadFigure"
    except BadBar:
        return "no BadBar"
    except BadCall:
        return "no BadCall"
    except Clash:
        return "no Clash"
    except NoFigure:
        return "no NoFigure"
    except WrongSize:
        return "no WrongSize"
    except NotOn:
        return "no NotOn"
    except BadNumber:
        return "no BadNumber"
    except NothingLeft:
        return "no NothingLeft"


def answer_of_sets(hall, line):
    """The answer to a line, also where anything is refused."""
    try:
        return answer_of_book(hall, line)
    except Known:
        return "no Known"
    except Few:
        return "no Few"
    except Full:
        return "no Full"
    except Taken:
        return "no Taken"
    except NoSet:
        return "no NoSet"
    except Fixed:
        return "no Fixed"
    except NoCouple:
        return "no NoCouple"
    except Last:
        return "no Last"
    except Same:
        return "no Same"
    except NoEntry:
        return "no NoEntry"
    except NotDanced:
        return "no NotDanced"


class Desk:
    """A desk with a hall of its own."""

    def __init__(self):
        self.hall = Hall()

    def say(self, line):
        """The answer to a line."""
        return answer_of_sets(self.hall, line)
