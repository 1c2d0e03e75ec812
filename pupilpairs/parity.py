"""Parity: in how many exchanges of two pupils a script is done."""

from pupilpairs.kinds import is_index
from pupilpairs.lines import moves_of, rearranged

# The parities of a line are told by its rest by this.
TURN = 8


def pairs_of(many):
    """How many pairs there are of so many."""
    return many * (many - 1) // 2


def exchanges_of(call, files, rows):
    """An integer that is even just if a call is done by an even number of exchanges."""
    word = call[0]
    if word == "all":
        return files * call[1] * (rows - 1)
    if word == "up":
        return call[2] * (rows - 1)
    if word == "swap":
        return rows
    if word == "wheel":
        return call[3]
    if word == "about":
        return files * rows // 2
    if word == "front":
        return 1
    # The others are counted by the pairs of pupils that stand the other way about behind them.
    if word in ("halve", "pair"):
        return pairs_of(files) * pairs_of(rows)
    return files * pairs_of((rows + 1) // 2)


def is_even(script, rows):
    """Whether an even number of exchanges does what a script does on a line."""
    return sum([exchanges_of(call, script.files, rows) for call in script]) % 2 == 0


def parities(script):
    """The list of the truths that hold for all lines, by the rests of their rows."""
    return [is_even(script, TURN + rest) for rest in range(TURN)]


def odd_on(script):
    """The least number of rows of a line on which a script is not even, or None."""
    for rows in range(1, TURN + 1):
        if not is_even(script, rows):
            return rows
    return None


def exchanges(script, rows):
    """A list of as few exchanges as possible that do what a script does."""
    moves = moves_of(script, rows)
    seen = [False] * len(moves)
    told = []
    for first in range(len(moves)):
        number = first
        while not seen[number]:
            seen[number] = True
            number = moves[number]
            # Whoever stands at the first place of a loop goes where he is led, and the next one comes there instead.
            if number != first:
                told.append((first, number))
    return told


def is_exchange(thing, many):
    """Whether a thing is an exchange in a line of so many pupils."""
    if not isinstance(thing, tuple) or len(thing) != 2:
        return False
    return is_index(thing[0], many) and is_index(thing[1], many) and thing[0] != thing[1]


def are_exchanges(script, rows, thing):
    """Whether a thing is a list of exchanges that do what a script does."""
    pupils = list(range(script.files * rows))
    if not isinstance(thing, list) or not all([is_exchange(item, len(pupils)) for item in thing]):
        return False
    wished = rearranged(pupils, moves_of(script, rows))
    for number, other in thing:
        pupils[number], pupils[other] = pupils[other], pupils[number]
    return pupils == wished
