"""Lines of pupils that stand somewhere and are moved."""

from pupilpairs.calls import is_call
from pupilpairs.errors import NoCall, NoPlace, NoPupil, Unlike, Wrong
from pupilpairs.kinds import is_files, is_index, is_rows
from pupilpairs.moves import is_place, number_of, place_of
from pupilpairs.scripts import Script

MOST_ROWS = 400


def behind_all(columns, call):
    """The columns of a line behind "all"; a column is the list of those who stand in a file, from the front.

    Columns are cut and joined as a whole, since that takes far less time than to move place by place.
    """
    cut = call[1] % len(columns[0])
    return [column[cut:] + column[:cut] for column in columns]


def behind_up(columns, call):
    """The columns behind "up"."""
    told = list(columns)
    column = columns[call[1]]
    cut = call[2] % len(column)
    told[call[1]] = column[cut:] + column[:cut]
    return told


def behind_swap(columns, call):
    """The columns behind "swap"."""
    f, g = call[1:]
    told = list(columns)
    told[f], told[g] = columns[g], columns[f]
    return told


def behind_wheel(columns, call):
    """The columns behind "wheel"."""
    f, g, k = call[1:]
    told = list(columns)
    rows = len(columns[f])
    ring = columns[f][::-1] + columns[g]
    cut = -k % len(ring)
    ring = ring[cut:] + ring[:cut]
    told[f], told[g] = ring[rows - 1::-1], ring[rows:]
    return told


def behind_about(columns, call):
    """The columns behind "about"."""
    return [column[::-1] for column in columns[::-1]]


def behind_front(columns, call):
    """The columns behind "front"."""
    f, g = call[1:]
    told = list(columns)
    told[f], told[g] = columns[g][:1] + columns[f][1:], columns[f][:1] + columns[g][1:]
    return told


def behind_halve(columns, call):
    """The columns behind "halve"."""
    order = order_of(columns)
    rows = len(columns[0])
    return [order[begin:begin + rows] for begin in range(0, len(order), rows)]


def behind_pair(columns, call):
    """The columns behind "pair"."""
    return columns_of([pupil for column in columns for pupil in column], len(columns))


def behind_others(columns, call):
    """The columns behind "others"."""
    return [column[::2] + column[1::2] for column in columns]


def behind_fill(columns, call):
    """The columns behind "fill"."""
    evens = (len(columns[0]) + 1) // 2
    told = [list(column) for column in columns]
    for file in range(len(columns)):
        told[file][::2] = columns[file][:evens]
        told[file][1::2] = columns[file][evens:]
    return told


ACTIONS = {
    "all": behind_all,
    "up": behind_up,
    "swap": behind_swap,
    "wheel": behind_wheel,
    "about": behind_about,
    "front": behind_front,
    "halve": behind_halve,
    "pair": behind_pair,
    "others": behind_others,
    "fill": behind_fill,
}


def columns_led(columns, calls):
    """The columns of a line behind calls, one behind another."""
    for call in calls:
        action = ACTIONS[call[0]]
        columns = action(columns, call)
    return columns


def columns_of(order, files):
    """The columns of a line whose pupils stand in some order, row by row."""
    return [order[file::files] for file in range(files)]


def order_of(columns):
    """The list of those who stand in columns, row by row."""
    files = len(columns)
    told = [0] * (files * len(columns[0]))
    for file in range(files):
        told[file::files] = columns[file]
    return told


def first_columns(files, rows):
    """The columns of a line whose pupils stand as at first."""
    return columns_of(list(range(files * rows)), files)


def order_behind(script, rows):
    """The list of the pupils of a line by the numbers of their places, behind a script."""
    return order_of(columns_led(first_columns(script.files, rows), script.calls()))


def moves_of(script, rows):
    """The numbers of the places to which a script leads from the places 0, 1, .. ."""
    # Turned back, the script brings to each place whoever stood at first where it leads from there.
    return order_behind(~script, rows)


def followed(one, other):
    """The moves of one and then of other."""
    return [other[number] for number in one]


def repeated(moves, many):
    """The moves done so many times; by squaring, since many may be great."""
    result = list(range(len(moves)))
    while many > 0:
        if many % 2 == 1:
            result = followed(result, moves)
        moves = followed(moves, moves)
        many = many // 2
    return result


def rearranged(pupils, moves):
    """The pupils by the numbers of their places, behind moves."""
    result = list(pupils)
    for pupil, number in zip(pupils, moves):
        result[number] = pupil
    return result


class Line:
    """A line of pupils who stand as at first until they are moved."""

    def __init__(self, files, rows):
        if not is_files(files):
            raise Wrong(0)
        if not is_rows(rows) or rows > MOST_ROWS:
            raise Wrong(1)
        self.width = files
        self.depth = rows
        self.standing = list(range(files * rows))

    def __eq__(self, other):
        return (isinstance(other, Line) and self.width == other.width and self.depth == other.depth
                and self.standing == other.standing)

    def __len__(self):
        return len(self.standing)

    def __iter__(self):
        return iter(self.standing)

    @property
    def files(self):
        """The number of files."""
        return self.width

    @property
    def rows(self):
        """The number of rows."""
        return self.depth

    def order(self):
        """The list of the pupils by the numbers of their places."""
        return list(self.standing)

    def at(self, place):
        """The pupil at a place."""
        if not is_place(self.width, self.depth, place):
            raise NoPlace(place)
        return self.standing[number_of(self.width, place)]

    def place_of(self, pupil):
        """The place of a pupil."""
        if not is_index(pupil, len(self.standing)):
            raise NoPupil(pupil)
        return place_of(self.width, self.standing.index(pupil))

    def row_of(self, pupil):
        """The ascending list of the other pupils in the row of a pupil."""
        row = self.place_of(pupil)[0]
        begin = row * self.width
        return sorted([other for other in self.standing[begin:begin + self.width] if other != pupil])

    def leaders(self):
        """The list of the pupils in the front row, by files."""
        return self.standing[:self.width]

    def is_home(self):
        """Whether all stand as at first."""
        return self.standing == list(range(len(self.standing)))

    def do(self, thing):
        """Does a call or a Script."""
        if is_call(self.width, thing):
            calls = [thing]
        elif isinstance(thing, Script) and thing.files == self.width:
            calls = thing.calls()
        else:
            raise NoCall(thing)
        self.standing = order_of(columns_led(columns_of(self.standing, self.width), calls))

    def go(self, script, rounds):
        """Does a Script so many times, or undoes it if rounds is below 0."""
        if script.files != self.width:
            raise Unlike()
        once = moves_of(script if rounds >= 0 else ~script, self.depth)
        self.standing = rearranged(self.standing, repeated(once, abs(rounds)))

    def copied(self):
        """A Line that stands there, too, and goes on by itself."""
        other = Line(self.width, self.depth)
        other.standing = self.order()
        return other
