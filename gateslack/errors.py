"""The refusals, in three families."""


class TimingError(ValueError):
    """Any refusal of what is handed in."""


class BadNetlist(TimingError):
    """No NETLIST; place tells where."""

    def __init__(self, place):
        self.place = place


class BadClock(TimingError):
    """No CLOCK."""


class BadPath(TimingError):
    """No PATH."""


class BadFilling(TimingError):
    """No FILLING."""


class BadCheck(TimingError):
    """No CHECK."""


class BadPaper(TimingError):
    """A paper that doesn't show what it should; place tells where."""

    def __init__(self, place):
        self.place = place


class BadEdit(TimingError):
    """No EDIT."""


class BadText(TimingError):
    """A text that doesn't read; line and word tell where."""

    def __init__(self, line=0, word=0):
        self.line = line
        self.word = word


class BadLine(TimingError):
    """No line for a desk."""


class NotThere(LookupError):
    """Any refusal of what isn't there."""


class NoSignal(NotThere):
    """No signal of that name, whatever was handed in as one."""

    def __init__(self, name):
        self.name = name


class NoEnd(NotThere):
    """No END of that name, whatever was handed in as one."""

    def __init__(self, name):
        self.name = name


class NoCorner(NotThere):
    """No CORNER of that number, whatever was handed in as one."""

    def __init__(self, number):
        self.number = number


class Refused(RuntimeError):
    """Any refusal of what can't be done now."""


class Busy(Refused):
    """Something else is being done."""


class NothingDone(Refused):
    """There is nothing to take back."""


class TooMany(Refused):
    """There are as many as there can be; most tells how many."""

    def __init__(self, most):
        self.most = most
