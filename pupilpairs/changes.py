"""What can be changed in a script so that it stays alike."""

from pupilpairs.alike import alike
from pupilpairs.errors import Open
from pupilpairs.scripts import Script


def needless(script):
    """The ascending list of the pairs of indexes whose calls can be left out together."""
    if not script.is_straight():
        raise Open()
    pairs = [(i, j) for i in range(len(script)) for j in range(i + 1, len(script))]
    return [(i, j) for i, j in pairs if alike(script, script.without(j).without(i))]


def exchangeable(script):
    """The ascending list of the indexes whose calls can change places with the next ones."""
    if not script.is_straight():
        raise Open()
    return [i for i in range(len(script) - 1) if alike(script, exchanged(script, i))]


def exchanged(script, index):
    """The script with a call and the next one exchanged."""
    return script.without(index).with_call(index + 1, script.call_at(index))


def commute(one, other):
    """Whether it is all the same which of two scripts is done first."""
    return alike(one * other, other * one)


def kept(script):
    """The least of the shortest lists of indexes with whose calls alone the script stays alike."""
    if not script.is_straight():
        raise Open()
    lists = choices(len(script))
    at = 0
    # The last list has all indexes, so one of them is found.
    while not alike(script, chosen(script, lists[at])):
        at += 1
    return lists[at]


def chosen(script, indexes):
    """The script with the calls with some indexes alone."""
    return Script(script.files, [script.call_at(index) for index in indexes])


def choices(many):
    """All ascending lists of indexes below many, the shorter ones first, then the lesser ones."""
    told = [[]]
    for index in range(many):
        told = told + [indexes + [index] for indexes in told]
    return [indexes for length, indexes in sorted([(len(indexes), indexes) for indexes in told])]
