"""Lanes: how a straight script moves the files of a long line far from its ends."""

from pupilpairs.errors import Open
from pupilpairs.stretches import part_at


def middle(script):
    """The list of the ways (to, sign, shift) of the files.

    They lead from a row far from the ends to row + shift if sign is 1, to rows - 1 - row + shift if it is -1.
    """
    if not script.is_straight():
        raise Open()
    # On a line of so many rows no call brings the one in the middle to an end.
    rows = 2 * script.size + 1
    parts = [part_at(script, rows, (script.size, file)) for file in range(script.files)]
    return [(to, sign, shift if sign == 1 else shift - rows + 1) for to, sign, shift in [part[3:] for part in parts]]


def turn_of(script):
    """The least number of rounds behind which each file comes back to itself with sign 1."""
    return len(lanes_by_rounds(script))


def strides(script):
    """The list of the shifts of the files behind so many rounds."""
    return [shift for to, sign, shift in lanes_by_rounds(script)[-1]]


def lanes_by_rounds(script):
    """The ways behind one round, behind two and so on, until each file comes back to itself with sign 1."""
    home = [(file, 1) for file in range(script.files)]
    told = [middle(script)]
    while [way[:2] for way in told[-1]] != home:
        told.append(lanes_joined(told[-1], told[0]))
    return told


def lanes_joined(first, second):
    """The ways of the files behind first and then second."""
    told = []
    for to, sign, shift in first:
        end, after, further = second[to]
        told.append((end, sign * after, after * shift + further))
    return told
