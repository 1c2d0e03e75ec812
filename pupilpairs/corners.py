"""Corners: where rounds of a straight script lead on lines too long to be gone through place by place."""

from pupilpairs.errors import NoPlace, NoPupil, Open
from pupilpairs.kinds import is_index, is_rows
from pupilpairs.lanes import turn_of
from pupilpairs.moves import is_place, moved, number_of, place_of
from pupilpairs.stretches import by_files, led_by, stretches


class Leg:
    """Rounds, one behind another, in which a place is led on evenly.

    spots are the tuples (row, file, sign) behind the first rounds. With each further turn, which has as many rounds,
    each of these rows goes on by sign * stride. end is the place behind the last round.
    """

    def __init__(self, spots, stride, turns, end):
        self.spots = spots
        self.stride = stride
        self.turns = turns
        self.end = end

    def rounds(self):
        """How many rounds these are."""
        return len(self.spots) * self.turns

    def place_behind(self, rounds):
        """The place behind so many of these rounds, fewer than all."""
        turns, part = divmod(rounds, len(self.spots))
        row, file, sign = self.spots[part]
        return (row + sign * self.stride * turns, file)

    def rounds_to(self, place):
        """The least number of these rounds, from one on, that lead to a place, or None if none do."""
        if self.stride == 0:
            return 1 if self.end == place else None
        most = self.rounds()
        found = []
        for part, (row, file, sign) in enumerate(self.spots):
            turns, rest = divmod(place[0] - row, sign * self.stride)
            rounds = turns * len(self.spots) + part
            if file == place[1] and rest == 0 and 0 < rounds <= most:
                found.append(rounds)
        return min(found) if found else None


class Course:
    """A straight script on a line, as it is gone through round by round."""

    def __init__(self, script, rows):
        self.turn = turn_of(script)
        self.ways = by_files(stretches(script, rows))

    def leg_from(self, place):
        """The leg that begins with a place; of one round where it is not led on evenly."""
        row, file = place
        sign = 1
        spots = []
        ways = []
        ends = []
        for part in range(self.turn):
            way = stretch_with(self.ways[file], row)
            spots.append((row, file, sign))
            ways.append(way)
            sign = sign * way[4]
            row, file = led_by(way, row)
            ends.append((row, file))
        stride = row - place[0]
        if file != place[1] or sign == -1 or stride == 0:
            return Leg(spots[:1], 0, 1, ends[0])
        turns = min([turns_within(way, spot, stride) for way, spot in zip(ways, spots)])
        return Leg(spots, stride, turns, (place[0] + stride * turns, file))

    def legs_from(self, place, most):
        """The legs from a place, with how many of their rounds count: until its loop is closed, or more than most."""
        told = []
        gone = 0
        at = place
        while gone <= most:
            leg = self.leg_from(at)
            back = leg.rounds_to(place)
            if back is not None:
                told.append((leg, back))
                break
            told.append((leg, leg.rounds()))
            gone += leg.rounds()
            at = leg.end
        return told


def stretch_with(ways, row):
    """The one of the stretches of a file that has a row."""
    low = 0
    high = len(ways) - 1
    while low < high:
        half = (low + high) // 2
        if ways[half][2] < row:
            low = half + 1
        else:
            high = half
    return ways[low]


def turns_within(way, spot, stride):
    """In how many turns, one behind another, a spot begins within a stretch."""
    row, file, sign = spot
    if sign * stride > 0:
        return (way[2] - row) // abs(stride) + 1
    return (row - way[1]) // abs(stride) + 1


def behind(script, rows, place, rounds):
    """The place to which rounds lead from a place."""
    if not script.is_straight():
        raise Open()
    if not is_place(script.files, rows, place):
        raise NoPlace(place)
    legs = Course(script if rounds >= 0 else ~script, rows).legs_from(place, abs(rounds))
    # There are fewer rounds in the legs than are asked for only if they are the whole loop.
    left = abs(rounds) % sum([many for leg, many in legs])
    for leg, many in legs:
        if left < many:
            break
        left -= many
    return leg.place_behind(left)


def mates(script, rows, pupil, rounds):
    """The ascending list of the other pupils in a pupil's row behind rounds."""
    if not script.is_straight():
        raise Open()
    if not is_index(pupil, script.files * rows):
        raise NoPupil(pupil)
    row, file = behind(script, rows, place_of(script.files, pupil), rounds)
    others = [(row, other) for other in range(script.files) if other != file]
    return sorted([number_of(script.files, behind(script, rows, place, -rounds)) for place in others])


def walk(script, rows, place):
    """A walk that begins with a place and has the rounds of its loop."""
    if not script.is_straight():
        raise Open()
    if not is_place(script.files, rows, place):
        raise NoPlace(place)
    told = []
    for leg, many in Course(script, rows).legs_from(place, script.files * rows):
        # The last leg may end between two turns, where a walk goes on round by round.
        odd = many % len(leg.spots)
        if many > odd:
            told.append((leg.place_behind(0), many - odd))
        told.extend([(leg.place_behind(rounds), 1) for rounds in range(many - odd, many)])
    return told


def is_walk(script, rows, thing):
    """Whether a thing is a walk."""
    if not script.is_straight():
        raise Open()
    if not isinstance(thing, list) or len(thing) == 0:
        return False
    if not all([is_step(script.files, rows, item) for item in thing]):
        return False
    turn = turn_of(script)
    ways = by_files(stretches(script, rows))
    great = by_files(stretches(script.times(turn), rows))
    for index, (place, many) in enumerate(thing):
        if many == 1:
            end = led_by(stretch_with(ways[place[1]], place[0]), place[0])
        elif many % turn == 0:
            end = led_evenly(stretch_with(great[place[1]], place[0]), place, many // turn)
        else:
            end = None
        if end != thing[(index + 1) % len(thing)][0]:
            return False
    return True


def along(script, rows, thing, rounds):
    """The place to which rounds lead from the first place of a walk."""
    turn = turn_of(script)
    left = rounds % sum([many for place, many in thing])
    for place, many in thing:
        if left < many:
            break
        left -= many
    turns, left = divmod(left, turn)
    if turns > 0:
        stride = led_rounds(script, rows, place, turn)[0] - place[0]
        place = (place[0] + stride * turns, place[1])
    return led_rounds(script, rows, place, left)


def is_step(files, rows, thing):
    """Whether a thing has the form of a step of a walk."""
    if not isinstance(thing, tuple) or len(thing) != 2:
        return False
    return is_place(files, rows, thing[0]) and is_rows(thing[1])


def led_evenly(stretch, place, times):
    """Where the places of one stretch lead that many times within a file, by the same rows; None if they do not."""
    row, file = place
    stride = led_by(stretch, row)[0] - row
    if stretch[3] != file:
        return None
    if times > 1 and stride != 0:
        if stretch[4] == -1 or not stretch[1] <= row + stride * (times - 1) <= stretch[2]:
            return None
    return (row + stride * times, file)


def led_rounds(script, rows, place, rounds):
    """The place to which a few rounds lead."""
    for done in range(rounds):
        place = moved(script, rows, place)
    return place
