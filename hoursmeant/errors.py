"""The errors of the package, each directly under HourError."""


class HourError(ValueError):
    """What all errors of the package are."""


class InvalidZone(HourError):
    """A zone was asked for."""


class InvalidZones(HourError):
    """A tuple of one or two zones was asked for."""


class InvalidPlace(HourError):
    """A place of the zones was asked for."""


class InvalidNumber(HourError):
    """An integer was asked for."""


class InvalidOffset(HourError):
    """One of the offsets of the zone was asked for."""


class InvalidRule(HourError):
    """A rule for folds, or for gaps, was asked for."""


class InvalidTable(HourError):
    """A table of the zone was asked for."""


class InvalidLooks(HourError):
    """Looks of the zone were asked for."""


class InvalidProgram(HourError):
    """A program of the zones was asked for."""


class InvalidWorld(HourError):
    """A world of the zones was asked for."""


class InvalidValue(HourError):
    """The index of a value that is no span was asked for."""


class InvalidWish(HourError):
    """A wish about the program was asked for."""


class InvalidSightings(HourError):
    """Sightings of the same zone were asked for."""


class Unsuited(HourError):
    """The world does not suit the run."""


class NothingToDrop(HourError):
    """There is no look at this moment."""


class NothingToUndo(HourError):
    """There is no deed to take back."""


class NoBlock(HourError):
    """There is no block to finish."""


class InvalidCommand(HourError):
    """The console has no such command."""


class Refused(HourError):
    """A find was refused; step is the index of its step."""

    def __init__(self, step):
        super().__init__(f"the find of step {step} is refused")
        self.step = step


class Seen(HourError):
    """Another offset was seen at this moment; offset is that one."""

    def __init__(self, offset):
        super().__init__(f"the offset {offset} was seen there")
        self.offset = offset


class Crowded(HourError):
    """The looks could not be; first and last are the moments of a crowded stretch."""

    def __init__(self, first, last):
        super().__init__(f"the looks from {first} to {last} are crowded")
        self.first = first
        self.last = last


class InvalidWords(HourError):
    """The text is none that can be read; place is the number of the word that cannot stand."""

    def __init__(self, place):
        super().__init__(f"the word {place} cannot stand there")
        self.place = place
