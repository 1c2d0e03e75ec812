"""Parades: lines of pupils led call by call, some of whom may be away."""

from pupilpairs.calls import is_call, size_of
from pupilpairs.errors import Away, Full, NoCall, NoPupil, Nothing, There, Wrong
from pupilpairs.kinds import is_files, is_index, is_rows
from pupilpairs.lines import Line

MOST_ROWS = 100
MOST_SIZE = 16
MOST_CALLS = 200


class Parade:
    """A line of pupils, at first as at first, who are led call by call."""

    def __init__(self, files, rows):
        if not is_files(files):
            raise Wrong(0)
        if not is_rows(rows) or rows > MOST_ROWS:
            raise Wrong(1)
        self.width = files
        self.depth = rows
        self.past = []
        self.undone = []
        # The line as it was at first and behind each of the calls done.
        self.states = [Line(files, rows)]
        self.present = {pupil: True for pupil in range(files * rows)}

    def __len__(self):
        return len(self.present)

    @property
    def files(self):
        """The number of files."""
        return self.width

    @property
    def rows(self):
        """The number of rows."""
        return self.depth

    def do(self, call):
        """Does a call."""
        self.check_call(call)
        if len(self.past) == MOST_CALLS:
            raise Full(MOST_CALLS)
        self.undone = []
        self.go_on(call)

    def back(self):
        """Undoes the last call, and returns it."""
        if len(self.past) == 0:
            raise Nothing()
        self.states.pop()
        call = self.past.pop()
        self.undone.append(call)
        return call

    def again(self):
        """Does the call that was undone last, as long as none was done since, and returns it."""
        if len(self.undone) == 0:
            raise Nothing()
        call = self.undone.pop()
        self.go_on(call)
        return call

    def done(self):
        """The list of the calls done so far."""
        return list(self.past)

    def trial(self, calls):
        """The rows as they would be behind the calls of a list."""
        if not isinstance(calls, list):
            raise NoCall(calls)
        for call in calls:
            self.check_call(call)
        trying = self.states[-1].copied()
        for call in calls:
            trying.do(call)
        return self.rows_of(trying)

    def leave(self, pupil):
        """Tells that a pupil is away."""
        self.check_pupil(pupil)
        if pupil not in self.present:
            raise Away(pupil)
        del self.present[pupil]

    def come(self, pupil):
        """Tells that a pupil is there again."""
        self.check_pupil(pupil)
        if pupil in self.present:
            raise There(pupil)
        self.present[pupil] = True

    def away(self):
        """The ascending list of the pupils who are away."""
        return [pupil for pupil in range(self.width * self.depth) if pupil not in self.present]

    def line(self):
        """The list of the rows, each a list of its pupils from the left, with None for one who is away."""
        return self.rows_of(self.states[-1])

    def place_of(self, pupil):
        """The place of a pupil, away or not."""
        return self.states[-1].place_of(pupil)

    def mates(self, pupil):
        """The ascending list of the others in a pupil's row who are there."""
        return [other for other in self.states[-1].row_of(pupil) if other in self.present]

    def met(self, pupil):
        """The ascending list of the others who ever stood in one row with a pupil, undone calls left out."""
        seen = {}
        for state in self.states:
            for other in state.row_of(pupil):
                seen[other] = True
        return sorted(seen)

    def is_home(self):
        """Whether all stand as at first."""
        return self.states[-1].is_home()

    def check_call(self, thing):
        """Raises what is to be raised for a call."""
        if not is_call(self.width, thing) or size_of(thing) > MOST_SIZE:
            raise NoCall(thing)

    def check_pupil(self, thing):
        """Raises what is to be raised for a pupil."""
        if not is_index(thing, self.width * self.depth):
            raise NoPupil(thing)

    def go_on(self, call):
        """Does a call that can be done."""
        state = self.states[-1].copied()
        state.do(call)
        self.states.append(state)
        self.past.append(call)

    def rows_of(self, state):
        """The rows of a line, with None for those who are away."""
        shown = [pupil if pupil in self.present else None for pupil in state]
        return [shown[begin:begin + self.width] for begin in range(0, len(shown), self.width)]
