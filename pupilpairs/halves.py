"""Halves: where any number of rounds of one open call alone leads, on lines of any length."""

from pupilpairs.errors import NoPlace, NoRow
from pupilpairs.kinds import is_index
from pupilpairs.moves import is_place, number_of, place_of
from pupilpairs.whens import inverse


def halved(files, rows, place, rounds):
    """The place to which rounds of "halve" alone lead from a place."""
    if not is_place(files, rows, place):
        raise NoPlace(place)
    number = number_of(files, place)
    last = files * rows - 1
    if number == last:
        return place
    return place_of(files, number * power(files, rounds, last) % last)


def stepped(rows, row, rounds):
    """The row to which rounds of "others" alone lead from a row."""
    if not is_index(row, rows):
        raise NoRow(row)
    modulus = odd_of(rows)
    # The last of an even number of rows stays.
    if row == modulus:
        return row
    # It is "fill" that doubles the rows.
    return row * power(2, -rounds, modulus) % modulus


def odd_of(rows):
    """The odd number by whose rests "fill" doubles the rows."""
    return rows - 1 + rows % 2


def power(base, exponent, modulus):
    """The rest of base ** exponent; below 0, of the powers of what base times leaves the rest 1."""
    factor = base % modulus if exponent >= 0 else inverse(base, modulus)
    left = abs(exponent)
    told = 1 % modulus
    while left > 0:
        if left % 2 == 1:
            told = told * factor % modulus
        factor = factor * factor % modulus
        left = left // 2
    return told
