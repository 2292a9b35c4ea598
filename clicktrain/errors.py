"""The refusals: one class for each kind, all under TrainError."""


class TrainError(ValueError):
    """Any refusal."""


class NoBack(TrainError):
    """There is nothing to take back."""


class NoCount(TrainError):
    """A number of times or of teeth that may not be asked for."""


class NoLine(TrainError):
    """A line that a desk does not know."""


class NoName(TrainError):
    """No name, or a name by which no train stands."""


class NoPushes(TrainError):
    """What was handed in for signs is none."""


class NoRow(TrainError):
    """What was handed in for a row, keys or shows is none."""


class NoStand(TrainError):
    """What was handed in for a stand is none of the train."""


class NoText(TrainError):
    """A text that is written otherwise than told."""


class NoTrain(TrainError):
    """What was handed in for a train is none."""


class NoWear(TrainError):
    """What was handed in for a wear is none of the train."""


class NoWheel(TrainError):
    """A train with a part that is no wheel, where wheels alone are asked for."""


class TooMany(TrainError):
    """More stands or wears than are gone through."""
