"""What the tests share: any values, drawn scripts, and a model of the calls by the words of the document.

The model is gone through place by place and step by step, so that it has nothing in common with the program.
"""

import random
import time

from pupilpairs.errors import NoPlace, Nothing, PupilError, Wrong
from pupilpairs.lines import Line
from pupilpairs.scripts import Script

STRAIGHT = ("all", "up", "swap", "wheel", "about", "front")
OPEN = ("halve", "pair", "others", "fill")
WITH_K = ("all", "up", "wheel")

# Lines of forty figures: even and odd, and such that 3 files give rests of all kinds.
FAR = (10 ** 39, 10 ** 39 + 1, 10 ** 40 - 1, 3 * 10 ** 39 + 2)


def nested(depth, make):
    """A value that is nested so deep."""
    value = make(0)
    for _ in range(depth):
        value = make(value)
    return value


def any_values():
    """Values of all kinds that are neither an integer nor a tuple of a call, a place or the like."""
    return [
        True, False, None, "", "swap", "swap 0 1", "0", "a" * 10000, "~ \n", b"", b"all", bytearray(b"all"),
        [], [0], [0, 0], ["about"], ["all", 1], [("all", 1)], (), ((),), (0,), (None, None), ("",), ("about", "about"),
        ([], []), ({}, {}), ("all", "1"), {}, {0: 0}, {"all": 1}, {(0, 0): [1]},
        set(), {0, 1}, frozenset(), frozenset({0}),
        range(2), 1j, slice(0, 1), Ellipsis, NotImplemented, object(), int, bool, tuple, len, any_values,
        memoryview(b"ab"), iter([0, 0]), ValueError(0), PupilError(), Wrong(0), NoPlace([]), Nothing(),
        Script, Line, Wrong, Script(2, []), Script(3, [("all", 1)]), Line(2, 1), Line(3, 4),
        list(range(10000)), tuple(range(10000)), nested(23, lambda value: [value]),
        nested(23, lambda value: (value,)), nested(23, lambda value: {"x": value}),
    ]


def raised(case, kind, function, *arguments):
    """The error that a function raises, which is of just this class."""
    with case.assertRaises(PupilError) as caught:
        function(*arguments)
    case.assertEqual(type(caught.exception), kind)
    return caught.exception


def is_truth(case, expected, thing):
    """Asserts that a thing is True or False itself, not a 1 or 0."""
    case.assertIs(thing, expected)


def all_places(files, rows):
    """The places of a line by their numbers."""
    return [(row, file) for row in range(rows) for file in range(files)]


def model_step(word, named, files, rows):
    """The dict from each place to the place to which one step of a call brings."""
    places = all_places(files, rows)
    leads = {place: place for place in places}
    if word in ("all", "up"):
        for file in named or range(files):
            rank = [(row, file) for row in range(rows)]
            leads.update(zip(rank, rank[-1:] + rank[:-1]))
    if word == "wheel":
        f, g = named
        ring = [(row, f) for row in reversed(range(rows))] + [(row, g) for row in range(rows)]
        leads.update(zip(ring, ring[1:] + ring[:1]))
    if word in ("swap", "front"):
        f, g = named
        for row in range(rows if word == "swap" else 1):
            leads[row, f] = (row, g)
            leads[row, g] = (row, f)
    if word == "about":
        leads = dict(zip(places, reversed(places)))
    if word in ("halve", "pair"):
        leads = dict(zip(places, [(row, file) for file in range(files) for row in range(rows)]))
    if word in ("others", "fill"):
        for file in range(files):
            stepping = [row for row in range(rows) if row % 2 == 0] + [row for row in range(rows) if row % 2 == 1]
            leads.update({(row, file): (at, file) for at, row in enumerate(stepping)})
    if word in ("pair", "fill"):
        leads = inverse(leads)
    return leads


def inverse(leads):
    """The dict read the other way round."""
    return {leads[place]: place for place in leads}


def model_call(call, files, rows):
    """The dict from each place to the place to which a call brings, k done step by step."""
    word = call[0]
    k = call[-1] if word in WITH_K else 1
    named = call[1:-1] if word in WITH_K else call[1:]
    step = model_step(word, named, files, rows)
    if k < 0:
        step = inverse(step)
    leads = {place: place for place in step}
    for _ in range(abs(k)):
        leads = {place: step[leads[place]] for place in leads}
    return leads


def model_script(files, calls, rows):
    """The dict from each place to the place to which calls lead, one behind another."""
    leads = {place: place for place in all_places(files, rows)}
    for call in calls:
        step = model_call(call, files, rows)
        leads = {place: step[leads[place]] for place in leads}
    return leads


def model_stretches(leads, files, rows):
    """The list of the stretches of what leads place by place, found by going through the rows."""
    told = []
    for file in range(files):
        first = 0
        while first < rows:
            row, to = leads[first, file]
            last, sign = first, 1
            for step in (1, -1):
                end = first
                while end + 1 < rows and leads[end + 1, file] == (row + step * (end + 1 - first), to):
                    end += 1
                if end > last:
                    last, sign = end, step
            told.append((file, first, last, to, sign, row - sign * first))
            first = last + 1
    return told


def kinds_of_calls(files, k):
    """Calls of all ten kinds for so many files, with each choice of files and with one k."""
    calls = [("all", k), ("about",), ("halve",), ("pair",), ("others",), ("fill",)]
    for f in range(files):
        calls.append(("up", f, k))
        for g in range(files):
            if f != g:
                calls.extend([("swap", f, g), ("wheel", f, g, k), ("front", f, g)])
    return calls


def drawn_call(draw, files, words, most):
    """A call with one of some words, whose size is at most a number."""
    word = draw.choice(words)
    f, g = draw.sample(range(files), 2)
    k = draw.choice([-1, 1]) * draw.randint(1, most)
    named = {"up": (f,), "swap": (f, g), "wheel": (f, g), "front": (f, g)}.get(word, ())
    return (word,) + named + ((k,) if word in WITH_K else ())


def drawn_script(draw, files, words=STRAIGHT, many=12, size=16):
    """A script with at most so many calls, and at most of such a size."""
    calls = []
    left = size
    for _ in range(draw.randint(0, many)):
        if left > 0:
            call = drawn_call(draw, files, words, draw.randint(1, left))
            left -= abs(call[-1]) if call[0] in WITH_K else 1
            calls.append(call)
    return Script(files, calls)


def drawn_scripts(seed, count, words=STRAIGHT, many=12, size=16):
    """Scripts for two and for three files, the same for the same seed."""
    draw = random.Random(seed)
    return [drawn_script(draw, draw.choice([2, 3]), words, many, size) for _ in range(count)]


def model_moves(script, rows):
    """The list of the numbers of the places to which a script leads, by the model."""
    leads = model_script(script.files, script.calls(), rows)
    return [row * script.files + file for row, file in [leads[place] for place in all_places(script.files, rows)]]


def model_loops(moves):
    """The list that has, for each number, the loop that begins with it."""
    told = []
    for first in range(len(moves)):
        loop = [first]
        while moves[loop[-1]] != first:
            loop.append(moves[loop[-1]])
        told.append(loop)
    return told


def model_together(moves, files, one, other):
    """Behind which rounds two pupils are in one row, gone through until both are back, and behind how many that is."""
    first, second = one, other
    told = []
    rounds = 0
    while rounds == 0 or (first, second) != (one, other):
        if first // files == second // files:
            told.append(rounds)
        first, second = moves[first], moves[second]
        rounds += 1
    return told, rounds


def open_scripts():
    """Scripts that are not straight, with an open call behind others, ahead of others and alone."""
    return [Script(files, [("all", 1)] * before + [(word,)] + [("about",)] * behind)
            for word in OPEN for files in (2, 3) for before, behind in ((0, 0), (2, 0), (0, 2))]


def near_places(files, rows):
    """Values that are nearly places of a line."""
    return [(rows, 0), (0, files), (-1, 0), (0, -1), [0, 0], (True, 0), (0, False), (0, 0, 0), (0,), 0, rows, "0.0"]


def near_pupils(files, rows):
    """Values that are nearly numbers of pupils of a line."""
    return [-1, files * rows, files * rows + 1, (0, 0), (0,), [0], "0", True, False, 10 ** 40]


def known_loop():
    """A loop that takes about a millisecond."""
    total = 0
    for number in range(20000):
        total += number
    return total


def best_time(function):
    """The least time of several in which a function is done."""
    times = []
    for _ in range(7):
        begin = time.process_time()
        function()
        times.append(time.process_time() - begin)
    return min(times)


def known_loops(function):
    """In how many times the time of the known loop a function is done; the least of several, as machines are busy."""
    return min(best_time(function) / best_time(known_loop) for _ in range(3))
