"""Claims: on which lines it holds that rounds of a straight script lead from spots to where it is claimed."""

from pupilpairs.calls import moved_by
from pupilpairs.errors import NoClaim, Open
from pupilpairs.kinds import is_index, is_integer

# How many spots stand in each claim, behind its word and k.
SPOTS = {"at": 2, "beside": 2, "leads": 1}
MOST_ROW = 9
MOST_SIZE = 90


def is_claim(script, thing):
    """Whether a thing is a claim about a script."""
    if not script.is_straight():
        raise Open()
    if not isinstance(thing, tuple) or len(thing) < 2:
        return False
    word, k = thing[:2]
    if not isinstance(word, str) or word not in SPOTS or len(thing) != SPOTS[word] + 2:
        return False
    if not is_integer(k) or abs(k) * script.size > MOST_SIZE:
        return False
    return all([is_spot(script.files, item) for item in thing[2:]])


def is_spot(files, thing):
    """Whether a thing is a spot of lines of so many files."""
    if not isinstance(thing, tuple) or len(thing) != 3:
        return False
    end, row, file = thing
    return end in ("front", "back") and is_index(row, MOST_ROW + 1) and is_index(file, files)


def holds(script, rows, claim):
    """Whether a claim holds on a line."""
    check_claims(script, [claim])
    return has_spots(rows, claim) and holds_on(calls_of(script, claim), script.files, rows, claim)


def answer(script, claim):
    """On which lines a claim holds: the early ones, and all or none from some line on."""
    return answer_all(script, [claim])


def answer_all(script, claims):
    """The same for all of some claims together."""
    check_claims(script, claims)
    most = max([1] + [even_from(script, claim) for claim in claims])
    told = [True] * most
    for claim in claims:
        calls = calls_of(script, claim)
        for rows in range(1, most + 1):
            if told[rows - 1]:
                told[rows - 1] = has_spots(rows, claim) and holds_on(calls, script.files, rows, claim)
    later = told[-1]
    first = most
    while first > 1 and told[first - 2] == later:
        first -= 1
    return ([rows for rows in range(1, first) if told[rows - 1]], first, later)


def breaking(script, claim):
    """The least line that has all spots of a claim and on which it does not hold, or None."""
    check_claims(script, [claim])
    calls = calls_of(script, claim)
    for rows in range(1, even_from(script, claim) + 1):
        if has_spots(rows, claim) and not holds_on(calls, script.files, rows, claim):
            return rows
    return None


def check_claims(script, claims):
    """Raises what is to be raised for claims."""
    if not script.is_straight():
        raise Open()
    for claim in claims:
        if not is_claim(script, claim):
            raise NoClaim(claim)


def even_from(script, claim):
    """From so many rows on, a claim holds on all lines or on none."""
    # A place is led away from where it began, or from the other end, by no more rows than this, so on longer lines
    # those who began near unlike ends, or came there, are far from each other.
    return 2 * (MOST_ROW + 1 + abs(claim[1]) * script.size)


def calls_of(script, claim):
    """The list of the calls that are done in the rounds of a claim."""
    # The rounds of a script without calls may be too many to be told one by one.
    return script.times(claim[1]).calls() if len(script) > 0 else []


def has_spots(rows, claim):
    """Whether a line has all spots of a claim."""
    return all([row < rows for end, row, file in claim[2:]])


def holds_on(calls, files, rows, claim):
    """Whether a claim about calls holds on a line that has its spots."""
    places = [(row if end == "front" else rows - 1 - row, file) for end, row, file in claim[2:]]
    first = led_through(calls, files, rows, places[0])
    if claim[0] == "at":
        return first == places[1]
    if claim[0] == "leads":
        return first[0] == 0
    return first[0] == led_through(calls, files, rows, places[1])[0]


def led_through(calls, files, rows, place):
    """The place to which calls lead from a place."""
    for call in calls:
        place = moved_by(call, files, rows, place)
    return place
