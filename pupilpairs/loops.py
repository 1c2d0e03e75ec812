"""Loops: how long it takes on a line until all is as at first, and until a pupil leads."""

from pupilpairs.corners import Course
from pupilpairs.errors import NoPlace, NoPupil, Open
from pupilpairs.kinds import is_index
from pupilpairs.lines import moves_of
from pupilpairs.moves import is_place, place_of
from pupilpairs.rests import common_multiple, loops_of, loops_on
from pupilpairs.whens import first_and_again


def loop_length(script, rows, place):
    """The length of the loop of a place."""
    if not script.is_straight():
        raise Open()
    if not is_place(script.files, rows, place):
        raise NoPlace(place)
    return sum([many for leg, many in Course(script, rows).legs_from(place, script.files * rows)])


def loops(script, rows):
    """The dict from the lengths of the loops of a line to how many have it."""
    if not script.is_straight():
        raise Open()
    told = loops_on(script, rows)
    return {length: told[length] for length in sorted(told)}


def returns(script, rows):
    """The least number of rounds, from one on, behind which all is as at first."""
    return common_multiple(list(loops(script, rows)))


def leads(script, rows, pupil):
    """The least number of rounds behind which a pupil stands in the front row, or None if it never does."""
    if not script.is_straight():
        raise Open()
    if not is_index(pupil, script.files * rows):
        raise NoPupil(pupil)
    front = [(0, file) for file in range(script.files)]
    place = place_of(script.files, pupil)
    return first_and_again(Course(script, rows), script.files * rows, place, front)[0]


def never_lead(script, rows):
    """The ascending list of the pupils who never stand in the front row."""
    if not script.is_straight():
        raise Open()
    still = [loop for loop in loops_of(moves_of(script, rows)) if min(loop) >= script.files]
    return sorted([number for loop in still for number in loop])
