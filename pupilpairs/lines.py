"""Lines of pupils that stand somewhere and are moved."""

from pupilpairs.calls import cut_of, is_call, is_straight, turned
from pupilpairs.errors import NoCall, NoPlace, NoPupil, Unlike, Wrong
from pupilpairs.kinds import is_files, is_index, is_rows
from pupilpairs.moves import is_place, number_of, place_of
from pupilpairs.scripts import Script

MOST_ROWS = 400


def moves_of_call(call, files, rows):
    """The numbers of the places to which a call brings from the places 0, 1, .. ."""
    if not is_straight(call):
        return moves_of_open_call(call, files, rows)
    moves = [0] * (files * rows)
    for file in range(files):
        cut, ahead, behind = cut_of(call, files, rows, file)
        # A way goes evenly, so its numbers are told as a whole instead of place by place.
        moves[file:cut * files:files] = numbers_of(ahead, files, 0, cut)
        moves[cut * files + file::files] = numbers_of(behind, files, cut, rows)
    return moves


def numbers_of(way, files, begin, end):
    """The numbers of the places to which a way leads from the rows from begin on ahead of end."""
    to, sign, shift = way
    start = (sign * begin + shift) * files + to
    step = sign * files
    return list(range(start, start + step * (end - begin), step))


def moves_of_open_call(call, files, rows):
    """The same of a call that is not straight."""
    if call[0] == "pair":
        return [file * rows + row for row in range(rows) for file in range(files)]
    if call[0] == "fill":
        order = list(range(0, rows, 2)) + list(range(1, rows, 2))
        return [row * files + file for row in order for file in range(files)]
    # The other two are undone by these.
    return rearranged(list(range(files * rows)), moves_of_open_call(turned(call), files, rows))


def moves_of(script, rows):
    """The numbers of the places to which a script leads from the places 0, 1, .. ."""
    known = {}
    numbers = list(range(script.files * rows))
    for call in script:
        # Scripts that were multiplied have the same few calls many times.
        if call not in known:
            known[call] = moves_of_call(call, script.files, rows)
        numbers = followed(numbers, known[call])
    return numbers


def followed(one, other):
    """The moves of one and then of other."""
    return [other[number] for number in one]


def repeated(moves, many):
    """The moves done so many times; by squaring, since many may be great."""
    result = list(range(len(moves)))
    while many > 0:
        if many % 2 == 1:
            result = followed(result, moves)
        moves = followed(moves, moves)
        many = many // 2
    return result


def rearranged(pupils, moves):
    """The pupils by the numbers of their places, behind moves."""
    result = list(pupils)
    for pupil, number in zip(pupils, moves):
        result[number] = pupil
    return result


class Line:
    """A line of pupils who stand as at first until they are moved."""

    def __init__(self, files, rows):
        if not is_files(files):
            raise Wrong(0)
        if not is_rows(rows) or rows > MOST_ROWS:
            raise Wrong(1)
        self.width = files
        self.depth = rows
        self.standing = list(range(files * rows))

    def __eq__(self, other):
        return (isinstance(other, Line) and self.width == other.width and self.depth == other.depth
                and self.standing == other.standing)

    def __len__(self):
        return len(self.standing)

    def __iter__(self):
        return iter(self.standing)

    @property
    def files(self):
        """The number of files."""
        return self.width

    @property
    def rows(self):
        """The number of rows."""
        return self.depth

    def order(self):
        """The list of the pupils by the numbers of their places."""
        return list(self.standing)

    def at(self, place):
        """The pupil at a place."""
        if not is_place(self.width, self.depth, place):
            raise NoPlace(place)
        return self.standing[number_of(self.width, place)]

    def place_of(self, pupil):
        """The place of a pupil."""
        if not is_index(pupil, len(self.standing)):
            raise NoPupil(pupil)
        return place_of(self.width, self.standing.index(pupil))

    def row_of(self, pupil):
        """The ascending list of the other pupils in the row of a pupil."""
        row = self.place_of(pupil)[0]
        begin = row * self.width
        return sorted([other for other in self.standing[begin:begin + self.width] if other != pupil])

    def leaders(self):
        """The list of the pupils in the front row, by files."""
        return self.standing[:self.width]

    def is_home(self):
        """Whether all stand as at first."""
        return self.standing == list(range(len(self.standing)))

    def do(self, thing):
        """Does a call or a Script."""
        if is_call(self.width, thing):
            moves = moves_of_call(thing, self.width, self.depth)
        elif isinstance(thing, Script) and thing.files == self.width:
            moves = moves_of(thing, self.depth)
        else:
            raise NoCall(thing)
        self.standing = rearranged(self.standing, moves)

    def go(self, script, rounds):
        """Does a Script so many times, or undoes it if rounds is below 0."""
        if script.files != self.width:
            raise Unlike()
        once = moves_of(script if rounds >= 0 else ~script, self.depth)
        self.standing = rearranged(self.standing, repeated(once, abs(rounds)))

    def copied(self):
        """A Line that stands there, too, and goes on by itself."""
        other = Line(self.width, self.depth)
        other.standing = self.order()
        return other
