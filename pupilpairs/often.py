"""Often: in how many rounds pupils are in one row, how long they are not, and who are so most often."""

from pupilpairs.meetings import Rings, check_pupils, rounds_met


def often(script, rows, one, other):
    """In how many of how many rounds two pupils are in one row."""
    met_behind, again = rounds_met(script, rows, one, other)
    return (len(met_behind), again)


def company(script, rows, pupil):
    """The dict from all other pupils to in how many of how many rounds they are in one row with a pupil."""
    check_pupils(script, rows, [pupil])
    shares = Rings(script, rows).shares(pupil)
    return {other: share for other, share in enumerate(shares) if other != pupil}


def first_after(script, rows, one, other, rounds):
    """The least number of rounds, from rounds on, behind which two pupils are in one row, or None."""
    met_behind, again = rounds_met(script, rows, one, other)
    if not met_behind:
        return None
    rest = rounds % again
    later = [behind for behind in met_behind if behind >= rest]
    return rounds - rest + (later[0] if later else again + met_behind[0])


def longest_apart(script, rows, one, other):
    """In how many rounds, one behind another, two pupils are not in one row at most, or None if they never meet."""
    met_behind, again = rounds_met(script, rows, one, other)
    if not met_behind:
        return None
    following = met_behind[1:] + [again + met_behind[0]]
    return max([after - behind for behind, after in zip(met_behind, following)]) - 1


def closest(script, rows):
    """The ascending list of the pairs of pupils who are in one row most often."""
    rings = Rings(script, rows)
    told = []
    most, of_all = 0, 1
    for one in range(script.files * rows):
        shares = rings.shares(one)
        for other in range(one + 1, len(shares)):
            times, again = shares[other]
            ahead = times * of_all - most * again
            if ahead > 0:
                told = []
                most, of_all = times, again
            if ahead >= 0:
                told.append((one, other))
    return told
