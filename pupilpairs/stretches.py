"""Stretches: the runs of rows that a straight script moves evenly on a line."""

from pupilpairs.calls import moved_by, size_of
from pupilpairs.errors import NoPlace, Open
from pupilpairs.kinds import is_integer
from pupilpairs.moves import is_place


def stretches(script, rows):
    """The ascending list of the stretches of all files."""
    if not script.is_straight():
        raise Open()
    told = [(file, 0, rows - 1, file, 1, 0) for file in range(script.files)]
    for call in script:
        told = joined(told, parts_of_call(call, script.files, rows))
    return told


def stretch_at(script, rows, place):
    """The stretch that has a place."""
    told = stretches(script, rows)
    if not is_place(script.files, rows, place):
        raise NoPlace(place)
    return [stretch for stretch in told if has_place(stretch, place)][0]


def led_by(stretch, row):
    """The place to which a stretch leads from one of its rows."""
    to, sign, shift = stretch[3:]
    return (sign * row + shift, to)


def joined(first, second):
    """The stretches of two scripts, one behind the other, from those of both."""
    parts = []
    for stretch in first:
        parts.extend(carried(stretch, second))
    return merged(sorted(parts))


def are_stretches(script, rows, thing):
    """Whether a thing is the list of the stretches of a script."""
    told = stretches(script, rows)
    return is_list_of_integers(thing) and thing == told


def has_place(stretch, place):
    """Whether a place is one of those of a stretch."""
    row, file = place
    return stretch[0] == file and stretch[1] <= row <= stretch[2]


def is_list_of_integers(thing):
    """Whether a thing is a list of tuples of integers; True and False are none."""
    if not isinstance(thing, list):
        return False
    if not all([isinstance(item, tuple) for item in thing]):
        return False
    return all([is_integer(number) for item in thing for number in item])


def part_between(file, first, last, begin, end):
    """The part of a file that leads evenly from its first and last row to two places."""
    sign = -1 if end[0] < begin[0] else 1
    return (file, first, last, begin[1], sign, begin[0] - sign * first)


def parts_of_call(call, files, rows):
    """Parts, not always greatest ones, that a straight call moves evenly."""
    # Whatever the call, nothing breaks but at the front and at the rows that k counts from an end.
    size = size_of(call)
    starts = sorted(set([0, size % rows, -size % rows]))
    lasts = [start - 1 for start in starts[1:]] + [rows - 1]
    parts = []
    for file in range(files):
        for first, last in zip(starts, lasts):
            begin = moved_by(call, files, rows, (first, file))
            end = moved_by(call, files, rows, (last, file))
            parts.append(part_between(file, first, last, begin, end))
    return parts


def carried(stretch, second):
    """The parts into which a stretch falls when those of second go on from where it leads."""
    file, first, last, to, sign, shift = stretch
    low, high = sorted([sign * first + shift, sign * last + shift])
    parts = []
    for after in second:
        begin = max(low, after[1])
        end = min(high, after[2])
        if after[0] == to and begin <= end:
            start, stop = sorted([sign * (begin - shift), sign * (end - shift)])
            ends = [led_by(after, led_by(stretch, row)[0]) for row in (start, stop)]
            parts.append(part_between(file, start, stop, ends[0], ends[1]))
    return parts


def merged(parts):
    """Parts that fill the files, in order, as greatest stretches."""
    told = []
    for part in parts:
        if told and goes_on(told[-1], part):
            whole = told.pop()
            begin = led_by(whole, whole[1])
            end = led_by(part, part[2])
            part = part_between(part[0], whole[1], part[2], begin, end)
        told.append(part)
    return told


def goes_on(stretch, part):
    """Whether a part goes on evenly where a stretch of the same file ends."""
    # No two rows are led to one place, so parts that touch there have the same sign.
    if stretch[0] != part[0] or stretch[3] != part[3]:
        return False
    step = led_by(part, part[1])[0] - led_by(stretch, stretch[2])[0]
    return abs(step) == 1
