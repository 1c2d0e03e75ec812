"""The kinds of numbers that the package is passed."""


def is_integer(thing):
    """Whether a thing is an integer; True and False are none."""
    return isinstance(thing, int) and not isinstance(thing, bool)


def is_files(thing):
    """Whether a thing is a number of files."""
    return is_integer(thing) and 2 <= thing <= 3


def is_rows(thing):
    """Whether a thing is a number of rows."""
    return is_integer(thing) and thing >= 1


def is_index(thing, many):
    """Whether a thing is an integer from 0 on below many."""
    return is_integer(thing) and 0 <= thing < many
