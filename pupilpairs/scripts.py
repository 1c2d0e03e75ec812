"""Scripts: calls that are done one behind another."""

from pupilpairs.calls import is_call, is_straight, mirrored, size_of, turned
from pupilpairs.errors import NoCall, Unlike, Wrong
from pupilpairs.kinds import is_files, is_index


class Script:
    """A number of files and a list of calls; it never changes."""

    def __init__(self, files, calls):
        if not is_files(files):
            raise Wrong(0)
        if not isinstance(calls, (list, tuple)):
            raise Wrong(1)
        if not all([is_call(files, call) for call in calls]):
            raise Wrong(1)
        self.width = files
        self.held = tuple(calls)

    def __eq__(self, other):
        return isinstance(other, Script) and self.width == other.width and self.held == other.held

    def __len__(self):
        return len(self.held)

    def __iter__(self):
        return iter(self.held)

    def __mul__(self, other):
        if self.width != other.width:
            raise Unlike()
        return Script(self.width, self.held + other.held)

    def __invert__(self):
        return Script(self.width, [turned(call) for call in reversed(self.held)])

    @property
    def files(self):
        """The number of files."""
        return self.width

    @property
    def size(self):
        """The sum of the sizes of the calls."""
        return sum([size_of(call) for call in self.held])

    def calls(self):
        """The list of the calls."""
        return list(self.held)

    def call_at(self, index):
        """The call with an index."""
        if not is_index(index, len(self.held)):
            raise NoCall(index)
        return self.held[index]

    def is_straight(self):
        """Whether all calls are straight."""
        return all([is_straight(call) for call in self.held])

    def times(self, k):
        """The Script k times one behind another; turned back for k below 0."""
        once = self if k >= 0 else ~self
        return Script(self.width, once.held * abs(k))

    def without(self, index):
        """The Script without the call with an index."""
        if not is_index(index, len(self.held)):
            raise NoCall(index)
        return Script(self.width, self.held[:index] + self.held[index + 1:])

    def with_call(self, index, call):
        """The Script with a call put in ahead of the one with an index, or behind all."""
        if not is_index(index, len(self.held) + 1):
            raise NoCall(index)
        # The calls are the argument 1 of Script, too, so it is Script that raises Wrong(1) for what is none.
        return Script(self.width, self.held[:index] + (call,) + self.held[index:])

    def mirrored(self):
        """The Script with the files counted from the right."""
        return Script(self.width, [mirrored(call, self.width) for call in self.held])
