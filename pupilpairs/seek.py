"""Seek: which arrangements of a short line calls lead to, and how few of them it takes."""

from pupilpairs.errors import NoArrangement
from pupilpairs.kinds import is_index, is_integer
from pupilpairs.lines import order_behind
from pupilpairs.scripts import Script


def arranged(files, rows, calls):
    """The arrangement to which calls, done one behind another, lead from the first one."""
    return tuple(order_behind(Script(files, calls), rows))


def seek(files, rows, calls, wished):
    """The least of the shortest lists of indexes of calls that lead to a wished arrangement, or None."""
    if not is_arrangement(files * rows, wished):
        raise NoArrangement(wished)
    found = searched(files, rows, calls, wished)
    if wished not in found:
        return None
    told = []
    number, before, index = found[wished]
    while number > 0:
        told.append(index)
        number, before, index = found[before]
    return told[::-1]


def levels(files, rows, calls):
    """The list of how many arrangements need just so many calls."""
    told = []
    for number in bounds(files, rows, calls).values():
        told.extend([0] * (number + 1 - len(told)))
        told[number] += 1
    return told


def bounds(files, rows, calls):
    """The dict from all arrangements that calls lead to, to the number of calls that they need."""
    found = searched(files, rows, calls, None)
    return {arrangement: found[arrangement][0] for arrangement in sorted(found)}


def is_bound(files, rows, calls, thing):
    """Whether a thing is a dict of arrangements that shows how many calls they need at least."""
    many = files * rows
    if not isinstance(thing, dict) or not all([is_arrangement(many, one) for one in thing]):
        return False
    if not all([is_integer(number) and number >= 0 for number in thing.values()]):
        return False
    if thing.get(first_of(many)) != 0:
        return False
    for sources in sources_of(files, rows, calls):
        for arrangement in thing:
            other = behind_call(arrangement, sources)
            if other not in thing or thing[other] > thing[arrangement] + 1:
                return False
    return True


def first_of(many):
    """The first arrangement of a line of so many pupils."""
    return tuple(range(many))


def is_arrangement(many, thing):
    """Whether a thing is an arrangement of a line of so many pupils."""
    if not isinstance(thing, tuple) or not all([is_index(pupil, many) for pupil in thing]):
        return False
    return sorted(thing) == list(range(many))


def sources_of(files, rows, calls):
    """For each call, the list of the numbers of the places from which it leads to the places 0, 1, .. ."""
    return [order_behind(Script(files, [call]), rows) for call in calls]


def behind_call(arrangement, sources):
    """The arrangement to which a call leads from an arrangement."""
    return tuple([arrangement[number] for number in sources])


def searched(files, rows, calls, wished):
    """The dict from the arrangements that calls lead to, until a wished one is among them; from all, if it is None.

    Each has a tuple: how many calls it needs, the arrangement ahead of the last one of them, and the index of that one.
    """
    first = first_of(files * rows)
    sources = sources_of(files, rows, calls)
    told = {first: (0, first, 0)}
    # Those that need as many calls wait in the order of their least lists, so each is found by its least one first.
    waiting = [first]
    at = 0
    while at < len(waiting) and wished not in told:
        arrangement = waiting[at]
        number = told[arrangement][0] + 1
        for index in range(len(sources)):
            other = behind_call(arrangement, sources[index])
            if other not in told:
                told[other] = (number, arrangement, index)
                waiting.append(other)
        at += 1
    return told
