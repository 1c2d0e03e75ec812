"""Stretches: the runs of rows that a straight script moves evenly on a line."""

from pupilpairs.calls import cut_of
from pupilpairs.errors import NoPlace, Open
from pupilpairs.kinds import is_integer
from pupilpairs.moves import is_place


def stretches(script, rows):
    """The ascending list of the stretches of all files."""
    if not script.is_straight():
        raise Open()
    parts = [(file, 0, rows - 1, file, 1, 0) for file in range(script.files)]
    for call in script:
        parts = parted(parts, [cut_of(call, script.files, rows, file) for file in range(script.files)])
    return merged(parts)


def stretch_at(script, rows, place):
    """The stretch that has a place."""
    if not script.is_straight():
        raise Open()
    if not is_place(script.files, rows, place):
        raise NoPlace(place)
    part = part_at(script, rows, place)
    file = place[1]
    # The stretches are many, so only the parts are made that go on evenly from this one.
    while part[1] > 0:
        ahead = part_at(script, rows, (part[1] - 1, file))
        if not goes_on(ahead, part):
            break
        part = stretch_between(ahead, part)
    while part[2] < rows - 1:
        behind = part_at(script, rows, (part[2] + 1, file))
        if not goes_on(part, behind):
            break
        part = stretch_between(part, behind)
    return stretch_between(part, part)


def led_by(stretch, row):
    """The place to which a stretch leads from one of its rows."""
    to, sign, shift = stretch[3:]
    return (sign * row + shift, to)


def joined(first, second):
    """The stretches of two scripts, one behind the other, from those of both."""
    ways = by_files(second)
    parts = []
    for stretch in first:
        parts.extend(carried(stretch, ways[stretch[3]]))
    return merged(parts)


def are_stretches(script, rows, thing):
    """Whether a thing is the list of the stretches of a script."""
    told = stretches(script, rows)
    return is_list_of_integers(thing) and thing == told


def has_place(stretch, place):
    """Whether a place is one of those of a stretch."""
    row, file = place
    return stretch[0] == file and stretch[1] <= row <= stretch[2]


def is_list_of_integers(thing):
    """Whether a thing is a list of tuples of integers; True and False are none."""
    if not isinstance(thing, list):
        return False
    if not all([isinstance(item, tuple) for item in thing]):
        return False
    return all([is_integer(number) for item in thing for number in item])


def by_files(told):
    """The stretches of a line in a dict by their files."""
    files = {}
    for stretch in told:
        files.setdefault(stretch[0], []).append(stretch)
    return files


def led_on(part, first, last, way):
    """The rows from first to last of a part, led on by a way of the file to which it leads."""
    file, sign, shift = part[0], part[4], part[5]
    to, after, further = way
    return (file, first, last, to, after * sign, after * shift + further)


def parted(parts, cuts):
    """The parts, in order, into which parts fall at the cuts of the files, and where the cuts' ways lead them."""
    told = []
    for part in parts:
        file, first, last, to, sign, shift = part
        cut, ahead, behind = cuts[to]
        # As rows of this part: the last row ahead of the cut, or behind it where the part is led turned about.
        edge = cut - 1 - shift if sign == 1 else shift - cut
        near, far = (ahead, behind) if sign == 1 else (behind, ahead)
        if edge >= last:
            told.append(led_on(part, first, last, near))
        elif edge < first:
            told.append(led_on(part, first, last, far))
        else:
            told.append(led_on(part, first, edge, near))
            told.append(led_on(part, edge + 1, last, far))
    return told


def part_at(script, rows, place):
    """A part that a straight script moves evenly and that has a place, not always a greatest one."""
    row, file = place
    parts = [(file, 0, rows - 1, file, 1, 0)]
    for call in script:
        cuts = {parts[0][3]: cut_of(call, script.files, rows, parts[0][3])}
        parts = [part for part in parted(parts, cuts) if part[1] <= row <= part[2]]
    return parts[0]


def carried(stretch, ways):
    """The parts, in order, into which a stretch falls when the stretches of the file it leads to go on from there."""
    file, first, last, to, sign, shift = stretch
    parts = []
    for way in ways if sign == 1 else ways[::-1]:
        ends = [sign * (way[1] - shift), sign * (way[2] - shift)]
        begin = max(first, min(ends))
        end = min(last, max(ends))
        if begin <= end:
            parts.append(led_on(stretch, begin, end, way[3:]))
    return parts


def merged(parts):
    """Parts that fill files, in order, as greatest stretches."""
    told = []
    for part in parts:
        if told and goes_on(told[-1], part):
            told.append(stretch_between(told.pop(), part))
        else:
            told.append(stretch_between(part, part))
    return told


def goes_on(stretch, part):
    """Whether a part goes on evenly where a stretch ahead of it ends."""
    # No two rows are led to one place, so parts that touch there have the same sign.
    if stretch[0] != part[0] or stretch[3] != part[3]:
        return False
    step = part[4] * part[1] + part[5] - stretch[4] * stretch[2] - stretch[5]
    return step in (1, -1)


def stretch_between(one, other):
    """The stretch from the first row of a part to the last row of one that goes on from it."""
    file, first, last, to = one[0], one[1], other[2], one[3]
    begin = one[4] * first + one[5]
    sign = -1 if other[4] * last + other[5] < begin else 1
    return (file, first, last, to, sign, begin - sign * first)
