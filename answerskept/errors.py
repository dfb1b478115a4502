"""The errors of the package, each with its arguments as fields [20]."""


class KeptError(ValueError):
    """The base of all errors of the package; it is raised nowhere itself."""


class Wrong(KeptError):
    """The argument with this place is not as described."""

    def __init__(self, place):
        self.place = place


class TooMany(KeptError):
    """There are more than the limit."""

    def __init__(self, limit):
        self.limit = limit


class Missing(KeptError):
    """A go goes to a name that is no function."""

    def __init__(self, name):
        self.name = name


class Uneven(KeptError):
    """A go hands the function more or fewer terms than it has givens."""

    def __init__(self, name):
        self.name = name


class Round(KeptError):
    """Gos lead from the function back to it."""

    def __init__(self, name):
        self.name = name


class Loose(KeptError):
    """A thing in the function comes from nowhere."""

    def __init__(self, function, name):
        self.function = function
        self.name = name


class NoFunction(KeptError):
    """There is no function of this name."""

    def __init__(self, name):
        self.name = name


class NoPlace(KeptError):
    """There is no such place, or nothing that fits it."""

    def __init__(self, place):
        self.place = place


class Overlap(KeptError):
    """The places of two edits overlap."""

    def __init__(self, one, other):
        self.one = one
        self.other = other


class Quarrel(KeptError):
    """Two afters quarrel in some world."""

    def __init__(self, one, other):
        self.one = one
        self.other = other


class Clash(KeptError):
    """Two edits of two editors clash."""

    def __init__(self, one, other):
        self.one = one
        self.other = other


class Unlike(KeptError):
    """The machines have unlike inputs."""


class QuarrelRow(KeptError):
    """Machines quarrel at a row of inputs."""

    def __init__(self, row):
        self.row = row


class NoText(KeptError):
    """The text writes nothing of the kind."""


class NoDeed(KeptError):
    """The value is no deed by its form."""


class Taken(KeptError):
    """The editor has joined already."""

    def __init__(self, name):
        self.name = name


class NoEditor(KeptError):
    """No editor of this name has joined."""

    def __init__(self, name):
        self.name = name


class NoNumber(KeptError):
    """There is nothing with this number."""

    def __init__(self, number):
        self.number = number


class Broken(KeptError):
    """The claim with this number would be broken in a world."""

    def __init__(self, number, world):
        self.number = number
        self.world = world


class Nothing(KeptError):
    """There is no deed to take back, or to do again."""


class Stopped(KeptError):
    """The deed with this index was refused."""

    def __init__(self, index):
        self.index = index


class NoCommand(KeptError):
    """The line is no command."""
