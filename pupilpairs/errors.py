"""The errors of the package: one class for each kind of failure."""


class PupilError(ValueError):
    """What all errors of the package are; it is raised nowhere itself."""


class Wrong(PupilError):
    """An argument is not as described."""

    def __init__(self, place):
        self.place = place


class NoCall(PupilError):
    """A thing is no call, or no index of one."""

    def __init__(self, thing):
        self.thing = thing


class Unlike(PupilError):
    """Two numbers of files are unlike."""


class NoPlace(PupilError):
    """A thing is no place of the line."""

    def __init__(self, place):
        self.place = place


class NoPupil(PupilError):
    """A thing is no number of a pupil of the line."""

    def __init__(self, pupil):
        self.pupil = pupil


class Open(PupilError):
    """A script is not straight."""


class NoWish(PupilError):
    """A thing is no wish of the line."""

    def __init__(self, wish):
        self.wish = wish


class NoStep(PupilError):
    """A step is no multiple of the period."""

    def __init__(self, step):
        self.step = step


class NoClaim(PupilError):
    """A thing is no claim about the script."""

    def __init__(self, claim):
        self.claim = claim


class NoRow(PupilError):
    """A thing is no row of the line."""

    def __init__(self, row):
        self.row = row


class NoOrder(PupilError):
    """A base has no order by a modulus."""

    def __init__(self, base, modulus):
        self.base = base
        self.modulus = modulus


class NoArrangement(PupilError):
    """A thing is no arrangement of the line."""

    def __init__(self, thing):
        self.thing = thing


class Full(PupilError):
    """As many calls as there may be were done."""

    def __init__(self, limit):
        self.limit = limit


class Nothing(PupilError):
    """There is no call to undo or to do again."""


class Away(PupilError):
    """A pupil is away already."""

    def __init__(self, pupil):
        self.pupil = pupil


class There(PupilError):
    """A pupil is there already."""

    def __init__(self, pupil):
        self.pupil = pupil


class NoText(PupilError):
    """A value is shown for nothing."""


class NoCommand(PupilError):
    """A value is no command."""
