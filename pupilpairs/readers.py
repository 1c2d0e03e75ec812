"""Readers: what a text was shown from."""

from pupilpairs.calls import is_call
from pupilpairs.claims import is_claim
from pupilpairs.errors import NoText
from pupilpairs.kinds import is_files
from pupilpairs.scripts import Script

MOST_FILES = 3
MOST_CALLS = 12
MOST_DIGITS = 40


def read_call(text):
    """The call that is shown so."""
    call = call_of(text) if isinstance(text, str) else None
    if call is None:
        raise NoText()
    return call


def read_script(text):
    """The script that is shown so."""
    if not isinstance(text, str):
        raise NoText()
    head, colon, rest = text.partition(":")
    files = integer_of(head)
    calls = calls_of(rest)
    if colon == "" or not is_files(files) or len(calls) > MOST_CALLS:
        raise NoText()
    if not all([is_call(files, call) for call in calls]):
        raise NoText()
    return Script(files, calls)


def read_place(text):
    """The place that is shown so."""
    if not isinstance(text, str):
        raise NoText()
    place = integers_of(text.split("."))
    if len(place) != 2 or None in place or min(place) < 0:
        raise NoText()
    return tuple(place)


def read_claim(text):
    """The claim that is shown so."""
    if not isinstance(text, str):
        raise NoText()
    word, *parts = text.split(" ")
    claim = (word,) + tuple(integers_of(parts[:1])) + tuple([spot_of(part) for part in parts[1:]])
    # Claims about a script without calls may have any k.
    if not is_claim(Script(MOST_FILES, []), claim):
        raise NoText()
    return claim


def integer_of(text):
    """The integer that is written so, with at most forty digits, or None."""
    digits = text[1:] if text.startswith("-") else text
    if not 1 <= len(digits) <= MOST_DIGITS or not all([digit in "0123456789" for digit in digits]):
        return None
    number = int(text)
    # "-0" and zeros ahead of the first digit are not written.
    return number if str(number) == text else None


def integers_of(texts):
    """The list of the integers that are written so, with None for what is none."""
    return [integer_of(text) for text in texts]


def call_of(text):
    """The call that is shown so, for lines of three files perhaps, or None."""
    word, *parts = text.split(" ")
    call = (word,) + tuple(integers_of(parts))
    return call if is_call(MOST_FILES, call) else None


def calls_of(text):
    """The list of the calls that are shown so behind the colon of a script, with None for what is none."""
    if text == "":
        return []
    if not text.startswith(" "):
        return [None]
    return [call_of(part) for part in text[1:].split(", ")]


def spot_of(text):
    """The end, row and file that are written so, with None for what is none."""
    end, *numbers = text.split(".")
    return (end,) + tuple(integers_of(numbers))
