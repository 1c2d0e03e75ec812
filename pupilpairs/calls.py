"""The calls: what is one, what undoes it, and where it brings whom."""

from pupilpairs.kinds import is_index, is_integer

# What stands behind each word: f for a file, k for an integer other than 0, which stands last.
PARTS = {
    "all": "k",
    "up": "fk",
    "swap": "ff",
    "wheel": "ffk",
    "about": "",
    "front": "ff",
    "halve": "",
    "pair": "",
    "others": "",
    "fill": "",
}

# The calls that are not straight, and what undoes each of them.
UNDOING = {"halve": "pair", "pair": "halve", "others": "fill", "fill": "others"}


def is_part(files, part, item):
    """Whether an item of a call is what stands there in such a call."""
    if part == "f":
        return is_index(item, files)
    return is_integer(item) and item != 0


def is_call(files, thing):
    """Whether a thing is a call for a line of so many files."""
    if not isinstance(thing, tuple) or len(thing) == 0:
        return False
    word = thing[0]
    if not isinstance(word, str) or word not in PARTS:
        return False
    parts = PARTS[word]
    if len(thing) != len(parts) + 1:
        return False
    if not all([is_part(files, part, item) for part, item in zip(parts, thing[1:])]):
        return False
    named = files_of(thing)
    return len(set(named)) == len(named)


def is_straight(call):
    """Whether a call is straight."""
    return call[0] not in UNDOING


def size_of(call):
    """The size of a call: that of its k, or 1 if it has none."""
    if "k" in PARTS[call[0]]:
        return abs(call[-1])
    return 1


def turned(call):
    """The call that undoes a call."""
    if "k" in PARTS[call[0]]:
        return call[:-1] + (-call[-1],)
    if call[0] in UNDOING:
        return (UNDOING[call[0]],)
    return call


def files_of(call):
    """The ascending list of the files that a call names."""
    return sorted([item for part, item in zip(PARTS[call[0]], call[1:]) if part == "f"])


def mirrored(call, files):
    """The call with the files counted from the right."""
    parts = PARTS[call[0]]
    items = [files - 1 - item if part == "f" else item for part, item in zip(parts, call[1:])]
    return (call[0],) + tuple(items)


def moved_by(call, files, rows, place):
    """The place to which a call brings whoever stands at a place."""
    if not is_straight(call):
        return moved_by_open_call(call[0], files, rows, place)
    row, file = place
    cut, ahead, behind = cut_of(call, files, rows, file)
    to, sign, shift = ahead if row < cut else behind
    return (sign * row + shift, to)


def cut_of(call, files, rows, file):
    """How a straight call moves a file: a row, the way of the rows ahead of it, and that of all others.

    A way (to, sign, shift) leads from a row to file to, there to sign * row + shift.
    """
    word = call[0]
    if word == "all" or (word == "up" and call[1] == file):
        return cut_of_up(call[-1], rows, file)
    if word == "about":
        return whole((files - 1 - file, -1, rows - 1))
    if word == "up" or file not in call[1:3]:
        return whole((file, 1, 0))
    if word == "wheel":
        return cut_of_wheel(call, rows, file)
    # "swap" in each row, or "front" in the front row: from one of the two files to the other.
    across = (call[1] + call[2] - file, 1, 0)
    if word == "front":
        return (1, across, (file, 1, 0))
    return whole(across)


def whole(way):
    """The cut of a file that goes one way."""
    return (0, way, way)


def cut_of_up(k, rows, file):
    """The cut of a file that goes up, the front to the back."""
    cut = k % rows
    return (cut, (file, 1, rows - cut), (file, 1, -cut))


def cut_of_wheel(call, rows, file):
    """The cut of one of the two files of a wheel."""
    rising, falling, k = call[1:]
    k = k % (2 * rows)
    if file == rising:
        over = (falling, -1, k - 1)
        if k < rows:
            return (k, over, (rising, 1, -k))
        # More than half a turn: the others go down one file and up in their own again.
        return (k - rows, (rising, 1, 2 * rows - k), over)
    over = (rising, -1, 2 * rows - 1 - k)
    if k < rows:
        return (rows - k, (falling, 1, k), over)
    return (2 * rows - k, over, (falling, 1, k - 2 * rows))


def moved_by_open_call(word, files, rows, place):
    """The place to which a call that is not straight brings whoever stands at a place."""
    row, file = place
    if word == "halve":
        number = row * files + file
        return (number % rows, number // rows)
    if word == "pair":
        number = file * rows + row
        return (number // files, number % files)
    evens = (rows + 1) // 2
    if word == "others":
        return (row // 2 + row % 2 * evens, file)
    if row < evens:
        return (2 * row, file)
    return (2 * (row - evens) + 1, file)
