"""Meetings: who ever stands in one row with whom behind rounds of a script, and what keeps two pupils apart."""

from pupilpairs.errors import NoPupil
from pupilpairs.kinds import is_index, is_integer
from pupilpairs.lines import moves_of, rearranged
from pupilpairs.rests import loops_of
from pupilpairs.whens import common_divisor, inverse


class Rings:
    """The loops of all places of a line."""

    def __init__(self, script, rows):
        self.width = script.files
        self.loops = loops_of(moves_of(script, rows))
        self.seats = seats_in(self.loops, script.files * rows)

    def shares(self, pupil):
        """The list by all pupils of (times, of): in how many of how many rounds they are in one row with a pupil."""
        which, begin = self.seats[pupil]
        own = self.loops[which]
        divisors = [common_divisor(len(own), len(loop)) for loop in self.loops]
        # Two places in one row are come to at once just if their indexes leave one rest, wherever the loops begin;
        # so all who are in one loop are told by how often two indexes are so far apart.
        counts = [[0] * divisor for divisor in divisors]
        for ahead in range(len(own)):
            row = own[(begin + ahead) % len(own)] // self.width
            for number in range(row * self.width, (row + 1) * self.width):
                at, index = self.seats[number]
                counts[at][(index - ahead) % divisors[at]] += 1
        again = [len(own) // divisor * len(loop) for divisor, loop in zip(divisors, self.loops)]
        return [(counts[at][index % divisors[at]], again[at]) for at, index in self.seats]


def first_meeting(script, rows, one, other):
    """The least number of rounds behind which two pupils meet, or None if they never do."""
    met_behind = rounds_met(script, rows, one, other)[0]
    return met_behind[0] if met_behind else None


def met(script, rows, pupil):
    """The ascending list of the other pupils whom one ever meets."""
    check_pupils(script, rows, [pupil])
    shares = Rings(script, rows).shares(pupil)
    return [other for other, (times, again) in enumerate(shares) if times > 0 and other != pupil]


def apart(script, rows, one, other):
    """The least divisor that parts two pupils, or None if there is none."""
    again, anew, pairs = crossings(script, rows, one, other)
    most = common_divisor(again, anew)
    for divisor in range(1, most + 1):
        if most % divisor == 0 and parts(divisor, pairs):
            return divisor
    return None


def is_apart(script, rows, one, other, divisor):
    """Whether a thing is a divisor that parts two pupils."""
    again, anew, pairs = crossings(script, rows, one, other)
    if not is_integer(divisor) or divisor < 1:
        return False
    return again % divisor == 0 and anew % divisor == 0 and parts(divisor, pairs)


def all_met(script, rows):
    """The least number of rounds up to which each two pupils have met, or None if some two never do."""
    if strangers(script, rows):
        return None
    moves = moves_of(script, rows)
    pupils = list(range(len(moves)))
    seen = {pair: True for pair in neighbours(script.files, pupils)}
    rounds = 0
    while len(seen) < len(moves) * (len(moves) - 1) // 2:
        pupils = rearranged(pupils, moves)
        rounds += 1
        for pair in neighbours(script.files, pupils):
            seen[pair] = True
    return rounds


def strangers(script, rows):
    """The ascending list of the pairs of pupils who never meet."""
    rings = Rings(script, rows)
    told = []
    for one in range(script.files * rows):
        shares = rings.shares(one)
        told.extend([(one, other) for other in range(one + 1, len(shares)) if shares[other][0] == 0])
    return told


def check_pupils(script, rows, pupils):
    """Raises what is to be raised for pupils."""
    for pupil in pupils:
        if not is_index(pupil, script.files * rows):
            raise NoPupil(pupil)


def seats_in(loops, many):
    """For each of so many numbers, by itself, in which of some loops it is, and its index there."""
    told = [(0, 0)] * many
    for at, loop in enumerate(loops):
        for index, number in enumerate(loop):
            told[number] = (at, index)
    return told


def loop_from(moves, first):
    """The loop of the place with a number."""
    told = [first]
    while moves[told[-1]] != first:
        told.append(moves[told[-1]])
    return told


def crossings(script, rows, one, other):
    """The lengths of the loops of two pupils, and the pairs of the indexes in these of two places in one row."""
    check_pupils(script, rows, [one, other])
    moves = moves_of(script, rows)
    first = loop_from(moves, one)
    second = loop_from(moves, other)
    by_rows = {}
    for index, number in enumerate(second):
        by_rows.setdefault(number // script.files, []).append(index)
    pairs = [(i, j) for i, number in enumerate(first) for j in by_rows.get(number // script.files, [])]
    return (len(first), len(second), pairs)


def rounds_met(script, rows, one, other):
    """Behind which rounds two pupils are in one row, ascending, and behind how many rounds it is so again."""
    again, anew, pairs = crossings(script, rows, one, other)
    divisor = common_divisor(again, anew)
    part = anew // divisor
    # The round that leaves the rest i by again and j by anew is i + again * t, and this is what t is told by.
    turned_back = inverse(again // divisor, part)
    told = [i + again * ((j - i) // divisor * turned_back % part) for i, j in pairs if (j - i) % divisor == 0]
    return (sorted(told), again * part)


def parts(divisor, pairs):
    """Whether the indexes of each pair leave unlike rests by a divisor."""
    return all([(j - i) % divisor != 0 for i, j in pairs])


def neighbours(files, pupils):
    """The pairs of the pupils of a line who are in one row, the lesser one first."""
    rows = [sorted(pupils[begin:begin + files]) for begin in range(0, len(pupils), files)]
    return [(row[i], row[j]) for row in rows for i in range(files) for j in range(i + 1, files)]
