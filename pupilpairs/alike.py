"""Whether two scripts are alike on all lines, and the least line that parts them."""

from pupilpairs.errors import Open, Unlike
from pupilpairs.lines import columns_led, first_columns, moves_of
from pupilpairs.moves import place_of
from pupilpairs.pieces import early
from pupilpairs.scripts import Script
from pupilpairs.stretches import stretches


def alike(one, other):
    """Whether two scripts are alike on all lines."""
    return parting(one, other) is None


def parting(one, other):
    """The least line on which two scripts are not alike and the least place there, or None."""
    if one.files != other.files:
        raise Unlike()
    if not one.is_straight() or not other.is_straight():
        raise Open()
    first, second = [Script(one.files, calls) for calls in unshared(one, other)]
    # Scripts that are alike on so many lines are alike on all.
    for rows in range(1, max(early(first), early(second)) + 1):
        # Greatest stretches tell a line's moves in one way only.
        if stretches(first, rows) != stretches(second, rows):
            return parting_on(one, other, rows)
    return None


def parting_to(one, other, most):
    """The same of any two scripts on the lines of at most so many rows."""
    if one.files != other.files:
        raise Unlike()
    first, second = unshared(one, other)
    for rows in range(1, most + 1):
        home = first_columns(one.files, rows)
        if columns_led(home, first) != columns_led(home, second):
            return parting_on(one, other, rows)
    return None


def unshared(one, other):
    """The calls of two scripts without those with which both begin, and without those with which both end then.

    These are alike on just the lines on which the scripts are.
    """
    first, second = one.calls(), other.calls()
    most = min(len(first), len(second))
    ahead = 0
    while ahead < most and first[ahead] == second[ahead]:
        ahead += 1
    behind = 0
    while behind < most - ahead and first[-1 - behind] == second[-1 - behind]:
        behind += 1
    return (first[ahead:len(first) - behind], second[ahead:len(second) - behind])


def parting_on(one, other, rows):
    """A number of rows and the least place there from which scripts lead to unlike places, or None."""
    first = moves_of(one, rows)
    second = moves_of(other, rows)
    for number in range(len(first)):
        if first[number] != second[number]:
            return (rows, place_of(one.files, number))
    return None


def is_nothing(script):
    """Whether a script is alike to the one without calls."""
    return alike(script, Script(script.files, []))
