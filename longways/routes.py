"""Rows of allowed calls that last as short as can be, and the papers that prove it."""

from longways.calls import beats, call_way
from longways.errors import BadSpots, TooMany
from longways.places import look_way, still, then

MOST_ALLOWED = 12


def allowed_steps(spots, allowed):
    """Each allowed call with its way and its beats; refuses another floor, too many calls, then a wrong one."""
    if spots not in (2, 3):
        raise BadSpots("rows of fewest beats are sought on 2 or 3 spots")
    if len(allowed) > MOST_ALLOWED:
        raise TooMany("at most 12 calls are allowed")
    return [(call, call_way(spots, call), beats(spots, call)) for call in allowed]


def fewest_rows(spots, steps):
    """For each way that rows do, as a tuple, its fewest beats and a row that lasts so long."""
    found = {}
    due = {0: [(tuple(still(spots)), [])]}
    while due:
        # Each call lasts a beat at least, so whatever is still to come lasts longer than the least that is due.
        lasts = min(due)
        entries = due.pop(lasts)
        for way, row in entries:
            if way not in found:
                found[way] = (lasts, row)
                for call, goals, call_beats in steps:
                    further = (tuple(then(spots, way, goals)), row + [call])
                    due.setdefault(lasts + call_beats, []).append(further)
    return found


def shortest(spots, allowed, way):
    """A row of allowed calls that does the way in fewest beats, or None where none does it."""
    steps = allowed_steps(spots, allowed)
    look_way(spots, way)
    found = fewest_rows(spots, steps)
    goals = tuple(way)
    if goals not in found:
        return None
    return found[goals][1]


def paper(spots, allowed):
    """Pairs of each way that rows do, as a tuple, and its fewest beats."""
    found = fewest_rows(spots, allowed_steps(spots, allowed))
    return [(way, number) for way, (number, row) in found.items()]


def reached(spots, allowed):
    """The ways that rows of allowed calls do, rising."""
    return [list(way) for way in sorted(fewest_rows(spots, allowed_steps(spots, allowed)))]


def begins_at_nought(spots, numbers):
    """Whether the way by which nobody goes has a number of at most 0."""
    start = tuple(still(spots))
    return start in numbers and numbers[start] <= 0


def bears_each_step(spots, steps, numbers):
    """Whether each call behind each way leads to one that has a number small enough."""
    for way, number in numbers.items():
        for call, goals, call_beats in steps:
            further = tuple(then(spots, way, goals))
            if further not in numbers or numbers[further] > number + call_beats:
                return False
    return True


def keeps_bound(goals, bound, numbers):
    """Whether the way has no number, or one that isn't below the bound."""
    if goals not in numbers:
        return True
    return bound is not None and numbers[goals] >= bound


def holds(spots, allowed, way, bound, pairs):
    """Whether a paper proves that no row which does the way is shorter than the bound, or none is where it's None."""
    steps = allowed_steps(spots, allowed)
    look_way(spots, way)
    numbers = dict(pairs)
    if len(numbers) != len(pairs):
        return False
    if not begins_at_nought(spots, numbers) or not keeps_bound(tuple(way), bound, numbers):
        return False
    return bears_each_step(spots, steps, numbers)
