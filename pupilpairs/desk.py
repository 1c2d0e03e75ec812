"""The desk: a parade that is led by lines of text, and answers in such."""

from pupilpairs.errors import NoCommand, PupilError
from pupilpairs.kinds import is_index
from pupilpairs.notation import show_call, show_place, show_script
from pupilpairs.parade import Parade
from pupilpairs.readers import call_of, integers_of
from pupilpairs.scripts import Script

# How many numbers stand behind each word; calls have words of their own.
NUMBERS = {
    "line": 2,
    "back": 0,
    "again": 0,
    "leave": 1,
    "come": 1,
    "where": 1,
    "mates": 1,
    "met": 1,
    "away": 0,
    "row": 1,
    "script": 0,
    "home": 0,
}
DONE = "ok"
REFUSED = "refused"


class Desk:
    """A desk that keeps a Parade, at first none."""

    def __init__(self):
        self.parade = None

    def execute(self, line):
        """Does what a line of text says, and returns the answer."""
        if not isinstance(line, str):
            raise NoCommand()
        call = call_of(line)
        word, *parts = line.split(" ")
        numbers = integers_of(parts)
        if call is None and (word not in NUMBERS or len(numbers) != NUMBERS[word] or None in numbers):
            raise NoCommand()
        try:
            if word == "line":
                self.parade = Parade(numbers[0], numbers[1])
                return DONE
            if self.parade is None:
                return REFUSED
            if call is not None:
                self.parade.do(call)
                return DONE
            return answer(self.parade, word, numbers)
        except PupilError:
            return REFUSED


def answer(parade, word, numbers):
    """What a parade answers to a word with some numbers."""
    if word == "back":
        return show_call(parade.back())
    if word == "again":
        return show_call(parade.again())
    if word == "away":
        return listed(parade.away())
    if word == "script":
        return show_script(Script(parade.files, parade.done()))
    if word == "home":
        return "yes" if parade.is_home() else "no"
    return answer_of_one(parade, word, numbers[0])


def answer_of_one(parade, word, number):
    """What a parade answers to a word with the number of a pupil or a row."""
    if word == "row":
        return listed(parade.line()[number]) if is_index(number, parade.rows) else REFUSED
    if word == "where":
        return show_place(parade.place_of(number))
    if word == "mates":
        return listed(parade.mates(number))
    if word == "met":
        return listed(parade.met(number))
    if word == "leave":
        parade.leave(number)
    else:
        parade.come(number)
    return DONE


def listed(pupils):
    """The text of pupils, with a sign for one who is away."""
    if len(pupils) == 0:
        return "none"
    return " ".join(["-" if pupil is None else str(pupil) for pupil in pupils])
