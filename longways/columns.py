"""Columns that dance by twos: who dances with whom, and where everybody stands behind any count of rounds."""

from longways.errors import BadNumber, Same, TooMany

MOST_COUPLES = 60


def look_column(many, phase):
    """Refuses a count of couples that no column has, then a phase that there isn't."""
    if not 0 <= many <= MOST_COUPLES:
        raise TooMany("a column has 0 to 60 couples")
    if phase not in (0, 1):
        raise BadNumber("the phase is 0 or 1")


def look_spot(many, phase, spot):
    """Refuses what look_column does, then a spot that the column hasn't."""
    look_column(many, phase)
    if not 0 <= spot < many:
        raise BadNumber("the column hasn't this spot")


def look_two(many, phase, one, other):
    """Refuses what look_spot does of either spot, then two spots that are one."""
    look_spot(many, phase, one)
    look_spot(many, phase, other)
    if one == other:
        raise Same("a couple doesn't meet itself")


def look_rounds(rounds):
    """Refuses a count of rounds below nought."""
    if rounds < 0:
        raise BadNumber("no column dances fewer than nought rounds")


def dancing(many, phase):
    """The pairs of spots that dance in a round, from the upper end on."""
    look_column(many, phase)
    return [(spot, spot + 1) for spot in range(phase, many - 1, 2)]


def standing_out(many, phase):
    """The spots that stand out in a round, rising."""
    in_pairs = [spot for pair in dancing(many, phase) for spot in pair]
    return [spot for spot in range(many) if spot not in in_pairs]


def ring_place(many, phase, spot):
    """The place on the column's ring of the couple at a spot."""
    look_spot(many, phase, spot)
    goes_down = spot % 2 == phase
    return spot if goes_down else 2 * many - 1 - spot


def course(many, phase, spot, rounds=1):
    """Where the couple of a spot stands behind so many rounds, and which way it goes then."""
    start = ring_place(many, phase, spot)
    look_rounds(rounds)
    place = (start + rounds) % (2 * many)
    if place < many:
        return (place, "down")
    return (2 * many - 1 - place, "up")


def after(column, phase=0, rounds=1):
    """The column, a list of any texts or numbers, behind so many rounds."""
    many = len(column)
    look_column(many, phase)
    look_rounds(rounds)
    later = list(column)
    for spot, couple in enumerate(column):
        goal, heading = course(many, phase, spot, rounds)
        later[goal] = couple
    return later


def first_meeting(many, phase, one, other):
    """The number of the round in which the couples of two spots meet for the first time."""
    places = ring_place(many, phase, one) + ring_place(many, phase, other)
    # They meet at the spots s and s + 1, which is at the places s and 2n - 2 - s, so where both make 2n - 2 together,
    # and each round adds 2 to that sum, which is even as the places are both even or both odd.
    return (-1 - places // 2) % many


def meeting(many, phase, one, other, number):
    """The number of the round in which the couples of two spots meet for the first, second, .. time."""
    look_two(many, phase, one, other)
    if number < 1:
        raise BadNumber("meetings are counted from 1 on")
    return first_meeting(many, phase, one, other) + (number - 1) * many


def met(many, phase, one, other, rounds):
    """In how many of the next so many rounds the couples of two spots meet."""
    look_two(many, phase, one, other)
    look_rounds(rounds)
    # They meet each n rounds from the first time on, which is one of the next n rounds: so this is never below nought.
    return (rounds - first_meeting(many, phase, one, other) + many - 1) // many


def table(many, phase, rounds):
    """For each spot a list of how often its couple meets that of each spot in the next so many rounds."""
    look_column(many, phase)
    look_rounds(rounds)
    rows = [[0] * many for spot in range(many)]
    for one in range(many):
        for other in range(many):
            if one != other:
                rows[one][other] = met(many, phase, one, other, rounds)
    return rows
