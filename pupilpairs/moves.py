"""Places and their numbers, and where a script leads from a place."""

from pupilpairs.calls import moved_by
from pupilpairs.errors import NoPlace
from pupilpairs.kinds import is_index


def is_place(files, rows, thing):
    """Whether a thing is a place of a line."""
    if not isinstance(thing, tuple) or len(thing) != 2:
        return False
    return is_index(thing[0], rows) and is_index(thing[1], files)


def number_of(files, place):
    """The number of a place."""
    row, file = place
    return row * files + file


def place_of(files, number):
    """The place with a number."""
    return (number // files, number % files)


def moved(script, rows, place):
    """The place to which a script leads from a place."""
    return passed(script, rows, place)[-1]


def came_from(script, rows, place):
    """The place from which a script leads to a place."""
    return moved(~script, rows, place)


def passed(script, rows, place):
    """The list of the places through which a script leads from a place."""
    if not is_place(script.files, rows, place):
        raise NoPlace(place)
    places = [place]
    for call in script:
        places.append(moved_by(call, script.files, rows, places[-1]))
    return places
