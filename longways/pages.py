"""Calls, bars, figures, deeds and whole halls as texts, and these read again."""

from longways.calls import COUNTS
from longways.errors import BadText, DanceError
from longways.hall import Hall
from longways.sets import MOST, is_name

DIGITS = "0123456789"
MOST_DIGITS = 60

# What stands behind a deed's word, but of a form, behind whose kind its couples stand, too.
THINGS = {
    "write": ("name", "number", "bars"), "alter": ("name", "bars"), "erase": ("name",), "form": ("name", "kind"),
    "dance": ("name", "name", "number"), "join": ("name", "name"), "leave": ("name", "name"),
    "swap": ("name", "name", "name"), "late": ("name", "number", "name", "number"), "scratch": ("name", "number"),
    "close": ("name",),
}


def call_text(call):
    """A call, written."""
    return ":".join([str(part) for part in call])


def bar_text(bar):
    """A bar, written."""
    return "+".join([call_text(call) for call in bar])


def figure_text(figure):
    """A figure, written."""
    if len(figure) == 0:
        return "-"
    return "/".join([bar_text(bar) for bar in figure])


def deed_text(deed):
    """A deed, written."""
    word = deed[0]
    if word == "form":
        return " ".join(list(deed[:3]) + list(deed[3]))
    texts = [word]
    for sort, thing in zip(THINGS[word], deed[1:]):
        texts.append(figure_text(thing) if sort == "bars" else str(thing))
    return " ".join(texts)


def is_number(text):
    """Whether a text is a number of at most sixty figures as it is written."""
    digits = text[1:] if text.startswith("-") else text
    if not 1 <= len(digits) <= MOST_DIGITS or [sign for sign in digits if sign not in DIGITS]:
        return False
    return digits[0] != "0" or text == "0"


def read_number(text):
    """A number, read."""
    if not is_number(text):
        raise BadText(0)
    return int(text)


def read_call(text):
    """A call, read, whatever its numbers are."""
    word, *numbers = text.split(":")
    if COUNTS.get(word) != len(numbers):
        raise BadText(0)
    return tuple([word] + [read_number(number) for number in numbers])


def read_figure(text):
    """A figure, read, however many bars and calls it has."""
    if text == "-":
        return []
    return [[read_call(part) for part in bar.split("+")] for bar in text.split("/")]


def read_thing(sort, text):
    """A thing of a deed, read."""
    if sort == "number":
        return read_number(text)
    if sort == "bars":
        return tuple([tuple(bar) for bar in read_figure(text)])
    if not (is_name(text) if sort == "name" else text in MOST):
        raise BadText(0)
    return text


def read_things(sorts, texts):
    """As many things as there are to be, read."""
    if len(sorts) != len(texts):
        raise BadText(0)
    return tuple([read_thing(sort, text) for sort, text in zip(sorts, texts)])


def read_deed(text):
    """A deed, read."""
    word, *texts = text.split(" ")
    if word not in THINGS:
        raise BadText(0)
    if word == "form":
        couples = texts[2:]
        return (word,) + read_things(THINGS[word], texts[:2]) + (read_things(["name"] * len(couples), couples),)
    return (word,) + read_things(THINGS[word], texts)


def page_text(hall):
    """A hall's page: a row for each standing deed, with a line feed behind each."""
    return "".join([deed_text(deed) + "\n" for deed in hall.deeds()])


def read_page(text):
    """The hall in which the deeds of a page were done one by one."""
    rows = text.split("\n")
    hall = Hall()
    for at, row in enumerate(rows[:-1]):
        try:
            hall.perform(read_deed(row))
        except DanceError:
            raise BadText(at) from None
    if rows[-1] != "":
        raise BadText(len(rows) - 1)
    return hall
