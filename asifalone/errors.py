"""The refusals: one class for each kind, all of them straight under AloneError."""


class AloneError(ValueError):
    """Any refusal."""


class NoDealing(AloneError):
    """What was handed in is no dealing."""


class NoDealings(AloneError):
    """What was handed in is no list of one to a hundred dealings."""


class NoText(AloneError):
    """What was handed in is not the text of a dealing."""


class NoLevel(AloneError):
    """What was handed in is no level."""


class NoLevels(AloneError):
    """What was handed in is no list of as many levels as are asked."""


class NoOrder(AloneError):
    """What was handed in is no order of the dealings."""


class NoNumber(AloneError):
    """What was handed in is none of the numbers that there are."""


class NoWeaving(AloneError):
    """What was handed in is no weaving of the dealings; place is what weaving_fault tells of it."""

    def __init__(self, place):
        super().__init__(f"no weaving of these dealings: the fault is at {place}")
        self.place = place


class NoBox(AloneError):
    """What was handed in is no box."""


class Barred(AloneError):
    """The store bars a step: its place, why, and by which dealing."""

    def __init__(self, place, why, by):
        super().__init__(f"barred at place {place}: {why}, by {by}")
        self.place = place
        self.why = why
        self.by = by


class NoTie(AloneError):
    """What was handed in is no kind of tie."""


class NoCut(AloneError):
    """What was handed in is no cut of the dealings."""


class NoPlaces(AloneError):
    """What was handed in is no list of wide places, each once."""


class NoRoom(AloneError):
    """A dealing would have more steps than one may have."""


class TooMany(AloneError):
    """There is more than is gone over, or than may be begun."""


class NoProgram(AloneError):
    """What was handed in is no program."""


class NoPrograms(AloneError):
    """What was handed in is no list of one to four programs."""


class NoKeys(AloneError):
    """What was handed in are no keys for the program."""


class NoCasts(AloneError):
    """What was handed in is no list of one to a hundred casts of the programs."""


class NoStep(AloneError):
    """The step may not follow those that its dealing did."""
