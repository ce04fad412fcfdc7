"""The refusals: each one is a CordError, and none stands under another one."""


class CordError(ValueError):
    """Any refusal."""


class NoNumber(CordError):
    """What was handed in is no number, or makes none."""


class NoText(CordError):
    """What was handed in is not written as it should be; part is the number of the first wrong part, or None."""

    def __init__(self, part=None):
        CordError.__init__(self, "this is not written as it should be")
        self.part = part


class NoTube(CordError):
    """What was handed in is no tube, or not one of the kind that is wanted."""


class NoRow(CordError):
    """What was handed in is no row, no row of its tube, or no steps of one."""


class NoMeasure(CordError):
    """What was handed in is no measure."""


class NoLevel(CordError):
    """A levelling can't be done; number is that of the first such one, or None where there is no tuple of them."""

    def __init__(self, number=None):
        CordError.__init__(self, "this levelling can't be done")
        self.number = number


class NoData(CordError):
    """What was handed in is no data."""


class NoPrice(CordError):
    """What was handed in is no price."""


class NoNeeds(CordError):
    """What was handed in is no needs."""


class NoRoom(CordError):
    """What was handed in is no room."""


class NoJobs(CordError):
    """What was handed in is no jobs."""


class NoCall(CordError):
    """The desk knows no such row; row is what it was told."""

    def __init__(self, row=None):
        CordError.__init__(self, "the desk knows no such row")
        self.row = row


class NoKept(CordError):
    """The desk keeps nothing of the kind that is asked of by this name."""

    def __init__(self, name=None):
        CordError.__init__(self, "the desk keeps no such thing by this name")
        self.name = name
