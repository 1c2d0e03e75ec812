"""Whens: behind which rounds of a straight script pupils stand where they are wished."""

from pupilpairs.corners import Course
from pupilpairs.errors import NoPlace, NoWish, Open
from pupilpairs.kinds import is_index, is_integer
from pupilpairs.moves import is_place, place_of

MOST_WISHES = 8


def reach(script, rows, place, wished):
    """The least number of rounds that lead from a place to a wished one, or None if none do."""
    if not script.is_straight():
        raise Open()
    for thing in (place, wished):
        if not is_place(script.files, rows, thing):
            raise NoPlace(thing)
    return first_and_again(Course(script, rows), script.files * rows, place, [wished])[0]


def when(script, rows, wish):
    """The rounds (first, again) behind which a wish holds, or None if it never does."""
    if not script.is_straight():
        raise Open()
    if not is_wish(script.files, rows, wish):
        raise NoWish(wish)
    return whens_of(script, rows, [wish])[0]


def when_all(script, rows, wishes):
    """The same for all of some wishes together."""
    check_wishes(script, rows, wishes)
    told = (0, 1)
    for one in whens_of(script, rows, wishes):
        if told is None or one is None:
            return None
        told = together(told, one)
    return told


def clash(script, rows, wishes):
    """What keeps wishes from ever holding together: one that never holds, or two; None if nothing does."""
    check_wishes(script, rows, wishes)
    told = whens_of(script, rows, wishes)
    if None in told:
        return (told.index(None),)
    for one in range(len(told)):
        for other in range(one + 1, len(told)):
            divisor = common_divisor(told[one][1], told[other][1])
            if (told[one][0] - told[other][0]) % divisor != 0:
                return (one, other, divisor)
    return None


def is_clash(script, rows, wishes, thing):
    """Whether a thing is a clash of wishes."""
    check_wishes(script, rows, wishes)
    if not isinstance(thing, tuple) or len(thing) not in (1, 3):
        return False
    if not all([is_index(item, len(wishes)) for item in thing[:2]]):
        return False
    told = whens_of(script, rows, [wishes[index] for index in thing[:2]])
    if len(thing) == 1:
        return told[0] is None
    divisor = thing[2]
    if thing[0] >= thing[1] or not is_integer(divisor) or divisor < 1 or None in told:
        return False
    (first, again), (second, anew) = told
    return again % divisor == 0 and anew % divisor == 0 and (first - second) % divisor != 0


def first_and_again(course, most, place, wished):
    """The least number of rounds from a place to one of some wished ones, or None, and the length of its loop."""
    first = 0 if place in wished else None
    gone = 0
    for leg, many in course.legs_from(place, most):
        if first is None:
            found = [leg.rounds_to(one) for one in wished]
            found = [rounds for rounds in found if rounds is not None]
            first = gone + min(found) if found else None
        gone += many
    return (first, gone)


def whens_of(script, rows, wishes):
    """The list of what `when` returns for each of some wishes."""
    course = Course(script, rows)
    told = []
    for pupil, place in wishes:
        first, again = first_and_again(course, script.files * rows, place_of(script.files, pupil), [place])
        told.append(None if first is None else (first, again))
    return told


def is_wish(files, rows, thing):
    """Whether a thing is a wish of a line."""
    if not isinstance(thing, tuple) or len(thing) != 2:
        return False
    return is_index(thing[0], files * rows) and is_place(files, rows, thing[1])


def check_wishes(script, rows, wishes):
    """Raises what is to be raised for wishes."""
    if not script.is_straight():
        raise Open()
    if not isinstance(wishes, list) or len(wishes) > MOST_WISHES:
        raise NoWish(wishes)
    for wish in wishes:
        if not is_wish(script.files, rows, wish):
            raise NoWish(wish)


def common_divisor(one, other):
    """The greatest common divisor of two integers from 0 on."""
    while other != 0:
        one, other = other, one % other
    return one


def inverse(number, modulus):
    """What times a number leaves the rest 1 by a modulus without a common divisor."""
    near, far = number % modulus, modulus
    one, other = 1, 0
    while far != 0:
        times = near // far
        near, far = far, near - times * far
        one, other = other, one - times * other
    return one % modulus


def together(one, other):
    """The rounds (first, again) that are among both of two such, or None if there are none."""
    first, again = one
    second, anew = other
    divisor = common_divisor(again, anew)
    if (second - first) % divisor != 0:
        return None
    part = anew // divisor
    turns = (second - first) // divisor * inverse(again // divisor, part) % part
    return (first + again * turns, again * part)
