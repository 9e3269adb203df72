"""The errors that this library raises."""

# The messages do not show the arguments: these may be values of any size, and
# Python refuses to write out very long integers.


class SlotgapsError(ValueError):
    """The base of all errors of this library."""


class InvalidName(SlotgapsError):
    """A value is not a name, or not the name of an entry."""

    def __init__(self, name):
        super().__init__("not a valid name here")
        self.name = name


class NameInUse(SlotgapsError):
    """There is an entry with this name already."""

    def __init__(self, name):
        super().__init__("there is an entry with this name already")
        self.name = name


class DiaryFull(SlotgapsError):
    """There are as many entries as a diary may have."""

    def __init__(self, limit):
        super().__init__("the diary has as many entries as it may have")
        self.limit = limit


class InvalidStep(SlotgapsError):
    """A value is not the index of a step, or the step is done already."""

    def __init__(self, step):
        super().__init__("not the index of a step that is still to be done")
        self.step = step


class NoPlan(SlotgapsError):
    """No plan has the times that are asked for."""

    def __init__(self, message):
        super().__init__(str(message))
        self.message = message
