"""Whether two scripts are alike on all lines, and the least line that parts them."""

from pupilpairs.errors import Unlike
from pupilpairs.lines import moves_of
from pupilpairs.moves import place_of
from pupilpairs.pieces import early
from pupilpairs.scripts import Script
from pupilpairs.stretches import stretches


def alike(one, other):
    """Whether two scripts are alike on all lines."""
    return parting(one, other) is None


def parting(one, other):
    """The least line on which two scripts are not alike and the least place there, or None."""
    if one.files != other.files:
        raise Unlike()
    # Scripts that are alike on so many lines are alike on all. There are no stretches, but an error, if one is open.
    for rows in range(1, max(early(one), early(other)) + 1):
        # Greatest stretches tell a line's moves in one way only.
        if stretches(one, rows) != stretches(other, rows):
            return parting_on(one, other, rows)
    return None


def parting_to(one, other, most):
    """The same of any two scripts on the lines of at most so many rows."""
    if one.files != other.files:
        raise Unlike()
    for rows in range(1, most + 1):
        told = parting_on(one, other, rows)
        if told is not None:
            return told
    return None


def parting_on(one, other, rows):
    """A number of rows and the least place there from which scripts lead to unlike places, or None."""
    first = moves_of(one, rows)
    second = moves_of(other, rows)
    for number in range(len(first)):
        if first[number] != second[number]:
            return (rows, place_of(one.files, number))
    return None


def is_nothing(script):
    """Whether a script is alike to the one without calls."""
    return alike(script, Script(script.files, []))
