"""Pieces: the stretches of a straight script, told for all long lines at once."""

from pupilpairs.kinds import is_integer
from pupilpairs.stretches import has_place, led_by, stretches


def early(script):
    """From so many rows on, the list of pieces tells the stretches."""
    return 4 * script.size + 3


def pieces(script):
    """The list of the pieces of a straight script."""
    rows = early(script)
    # From there on one list of pieces tells the stretches of all lines, so a second line, with one row more,
    # shows which ends and shifts go with the rows.
    shorter = stretches(script, rows)
    longer = stretches(script, rows + 1)
    return [piece_of(rows, near, far) for near, far in zip(shorter, longer)]


def told_by(pieces, rows):
    """The stretches for which pieces stand on a line."""
    return [stretch_of(piece, rows) for piece in pieces]


def put(pieces, rows, place):
    """The place to which pieces lead from a place, or None if none of them has it."""
    for stretch in told_by(pieces, rows):
        if has_place(stretch, place):
            return led_by(stretch, place[0])
    return None


def are_pieces(script, thing):
    """Whether a thing is the list of the pieces of a script."""
    told = pieces(script)
    return is_list_of_pieces(thing) and thing == told


def is_told(script, rows, thing):
    """Whether a thing is a list of pieces that stands for just the stretches on a line."""
    told = stretches(script, rows)
    return is_list_of_pieces(thing) and told_by(thing, rows) == told


def bound_of(rows, near, far):
    """The bound of a row on a line, and of the same with one row more."""
    if near == far:
        return ("front", near)
    return ("back", rows - 1 - near)


def piece_of(rows, near, far):
    """The piece of a stretch on a line, and of the same with one row more."""
    file, first, last, to, sign, shift = near
    times = far[5] - shift
    begin = bound_of(rows, first, far[1])
    end = bound_of(rows, last, far[2])
    return (file, begin, end, to, sign, shift - times * rows, times)


def row_of(bound, rows):
    """The row for which a bound stands."""
    end, number = bound
    return number if end == "front" else rows - 1 - number


def stretch_of(piece, rows):
    """The stretch for which a piece stands on a line."""
    file, first, last, to, sign, shift, times = piece
    return (file, row_of(first, rows), row_of(last, rows), to, sign, shift + times * rows)


def is_bound(thing):
    """Whether a thing is a bound."""
    if not isinstance(thing, tuple) or len(thing) != 2:
        return False
    end, number = thing
    return end in ("front", "back") and is_integer(number) and number >= 0


def is_piece(thing):
    """Whether a thing has the form of a piece."""
    if not isinstance(thing, tuple) or len(thing) != 7:
        return False
    if not is_bound(thing[1]) or not is_bound(thing[2]):
        return False
    return all([is_integer(item) for item in thing[:1] + thing[3:]])


def is_list_of_pieces(thing):
    """Whether a thing is a list of pieces."""
    return isinstance(thing, list) and all([is_piece(item) for item in thing])
