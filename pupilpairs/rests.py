"""Rests: how the loops of a straight script go on from line to line."""

from pupilpairs.corners import stretch_with
from pupilpairs.errors import NoStep
from pupilpairs.lanes import lanes_by_rounds, strides, turn_of
from pupilpairs.lines import moves_of
from pupilpairs.stretches import by_files, led_by, stretches
from pupilpairs.whens import common_divisor

# On so few rows it is quicker to go through all places.
FEW_ROWS = 400


def period(script):
    """Twice the least common multiple of the strides other than 0, without signs."""
    return 2 * common_multiple([abs(stride) for stride in strides(script) if stride != 0])


def from_rows(script):
    """From so many rows on, the loops go on evenly by the period."""
    return 4 * turn_of(script) * script.size + 3


def power_of(script):
    """The least number of rounds behind which all is as at first on all lines, or None."""
    if any([stride != 0 for stride in strides(script)]):
        return None
    # Without strides the period is 2 and no loop grows, so the loops of all longer lines have the lengths of these.
    most = from_rows(script) + 1
    return common_multiple([common_multiple(list(loops_on(script, rows))) for rows in range(1, most + 1)])


def families(script, rest, step):
    """The least line of a rest, and the loops that it has and the following ones of this rest, as they go on."""
    if step % period(script) != 0:
        raise NoStep(step)
    first = from_rows(script)
    first += (rest - first) % step
    near = short_loops(script, first)
    far = short_loops(script, first + step)
    told = {(length, 0): (near[length], far[length] - near[length]) for length in near}
    for length, there in zip(long_loops(script, first), long_loops(script, first + step)):
        many, more = told.get((length, there - length), (0, 0))
        told[length, there - length] = (many + 1, more)
    return (first, sorted([pair + told[pair] for pair in told if told[pair] != (0, 0)]))


def common_multiple(numbers):
    """The least common multiple of integers from 1 on; 1 if there are none."""
    told = 1
    for number in numbers:
        told = told // common_divisor(told, number) * number
    return told


def loops_on(script, rows):
    """The dict from the lengths of the loops of a line to how many have it; in no order."""
    if rows <= FEW_ROWS:
        told = {}
        lengths = [len(loop) for loop in loops_of(moves_of(script, rows))]
    else:
        short = short_loops(script, rows)
        told = {length: short[length] for length in short if short[length] > 0}
        lengths = long_loops(script, rows)
    for length in lengths:
        told[length] = told.get(length, 0) + 1
    return told


def loops_of(moves):
    """The loops of the numbers of a line, each a list, by their least numbers."""
    seen = [False] * len(moves)
    told = []
    for first in range(len(moves)):
        loop = []
        number = first
        while not seen[number]:
            seen[number] = True
            loop.append(number)
            number = moves[number]
        if loop:
            told.append(loop)
    return told


def short_loops(script, rows):
    """The dict from each divisor of the turn to how many loops have this length."""
    told = {}
    turn = turn_of(script)
    for length in range(1, turn + 1):
        if turn % length == 0:
            places = places_kept(stretches(script.times(length), rows))
            shorter = sum([less * told[less] for less in told if length % less == 0])
            told[length] = (places - shorter) // length
    return told


def places_kept(told):
    """How many places stretches lead to themselves."""
    many = 0
    for file, first, last, to, sign, shift in told:
        if to == file and sign == 1 and shift == 0:
            many += last - first + 1
        elif to == file and sign == -1 and shift % 2 == 0 and first <= shift // 2 <= last:
            many += 1
    return many


def long_loops(script, rows):
    """The lengths of all other loops, in the order of their first places near the ends.

    A place that does not come back within a turn is led on until it comes near an end, so no such loop is missed.
    Counted from the ends, the places near them are the same on all long lines, so the order is, too.
    """
    nexts = nexts_near_ends(script, rows)
    turn = turn_of(script)
    told = []
    seen = {}
    for place in nexts:
        length = 0
        while place not in seen:
            seen[place] = True
            place, rounds = nexts[place]
            length += rounds
        if length > 0 and turn % length != 0:
            told.append(length)
    return told


def nexts_near_ends(script, rows):
    """The dict from each place near an end to the next such place, and behind how many rounds it comes."""
    lanes = lanes_by_rounds(script)
    ways = by_files(stretches(script, rows))
    # No place between these rows is led to an end within a turn.
    low = len(lanes) * script.size
    high = rows - 1 - low
    told = {}
    for row in list(range(min(low, rows))) + list(range(max(low, high + 1), rows)):
        for file in range(script.files):
            end, to = led_by(stretch_with(ways[file], row), row)
            if low <= end <= high:
                rounds, place = out_of_middle(lanes, low, high, (end, to))
                told[row, file] = (place, rounds + 1)
            else:
                told[row, file] = ((end, to), 1)
    return told


def out_of_middle(lanes, low, high, place):
    """How many rounds lead first from a place between two rows to one beyond them, and to which one."""
    row, file = place
    stride = lanes[-1][file][2]
    found = []
    for part, ways in enumerate(lanes):
        to, sign, shift = ways[file]
        at = row + shift if sign == 1 else low + high - row + shift
        onward = sign * stride
        if not low <= at <= high:
            found.append((part + 1, (at, to)))
        elif stride != 0:
            turns = (high - at if onward > 0 else at - low) // abs(stride) + 1
            found.append((part + 1 + turns * len(lanes), (at + turns * onward, to)))
    return min(found)
