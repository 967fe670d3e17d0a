"""The errors of the package. All of them stand directly under StopError."""


class StopError(ValueError):
    """What is above all errors of the package."""


class BadRatio(StopError):
    """A number of a ratio is of the wrong kind, or a divisor is 0."""

    def __init__(self, what):
        self.what = what


class BadPlace(StopError):
    """A thing is no couple of ratios."""


class BadWork(StopError):
    """Things are no corners of a convex polygon."""

    def __init__(self, index, what):
        self.index = index
        self.what = what


class NoSide(StopError):
    """A thing is no number of a side."""

    def __init__(self, side):
        self.side = side


class BadSize(StopError):
    """A size is no ratio above 0."""


class BadStop(StopError):
    """A thing is no stop of the work, or things are no stops."""

    def __init__(self, index, what):
        self.index = index
        self.what = what


class BadText(StopError):
    """A text cannot be read."""

    def __init__(self, word, what):
        self.word = word
        self.what = what


class BadMotion(StopError):
    """A thing is no motion, or a motion is rest."""


class BadDirection(StopError):
    """A thing is no direction."""


class BadWay(StopError):
    """A thing is no way to turn."""


class NoCentre(StopError):
    """A motion has no centre."""


class BadPull(StopError):
    """A thing is no pull."""


class BadRows(StopError):
    """Things are no rows of ratios."""


class BadNumbers(StopError):
    """A thing is no sequence of as many fitting ratios as are asked."""

    def __init__(self, what):
        self.what = what


class LowRank(StopError):
    """Rows have a rank below their length."""

    def __init__(self, rank):
        self.rank = rank


class NoStop(StopError):
    """A thing is no index of a stop."""

    def __init__(self, number):
        self.number = number


class BadShares(StopError):
    """Things are no shares of a worn work."""

    def __init__(self, index):
        self.index = index


class WornOut(StopError):
    """A side is worn away."""

    def __init__(self, side):
        self.side = side


class NoMeeting(StopError):
    """A stop cannot be pressed onto another work."""

    def __init__(self, index):
        self.index = index


class BadHalves(StopError):
    """Things are no halves."""

    def __init__(self, index):
        self.index = index


class NoMiddle(StopError):
    """An extent has no middle."""


class BadSwing(StopError):
    """A thing is no swing."""


class BadSteps(StopError):
    """A thing is no number of steps."""


class BadStretch(StopError):
    """A thing is no stretch of spots, or things are no stretches."""

    def __init__(self, index, what):
        self.index = index
        self.what = what


class BadChoice(StopError):
    """A thing is no choice of ends."""


class BadStep(StopError):
    """A step is no ratio above 0."""


class BadMost(StopError):
    """A thing is no greatest number of steps."""

    def __init__(self, most):
        self.most = most


class BadBounds(StopError):
    """Things are no bounds of amounts."""

    def __init__(self, index, what):
        self.index = index
        self.what = what


class BadAim(StopError):
    """A thing is no aim."""

    def __init__(self, aim):
        self.aim = aim


class BadCount(StopError):
    """A thing is no number of lost stops."""

    def __init__(self, count):
        self.count = count


class BadSides(StopError):
    """Things are no fitting numbers of sides."""

    def __init__(self, sides):
        self.sides = sides


class BadFar(StopError):
    """A far is no ratio from 0 on."""


class BadPosts(StopError):
    """Things are no posts."""

    def __init__(self, index, what):
        self.index = index
        self.what = what


class BadSlides(StopError):
    """Things are no slides."""


class BadLot(StopError):
    """A thing is no lot of indices."""


class NoSeats(StopError):
    """Things are no seats."""

    def __init__(self, what):
        self.what = what


class BadSlips(StopError):
    """Things are no slips."""

    def __init__(self, index, what):
        self.index = index
        self.what = what


class BadSlacks(StopError):
    """Things are no slacks."""

    def __init__(self, index, what):
        self.index = index
        self.what = what


class NoTouch(StopError):
    """Two works do not touch side to side."""


class BadChange(StopError):
    """A thing is no change, or it cannot be applied."""

    def __init__(self, index, what):
        self.index = index
        self.what = what


class BadWish(StopError):
    """A thing is no wish, or things are no wishes."""

    def __init__(self, index, what):
        self.index = index
        self.what = what


class NothingDone(StopError):
    """There is no change to take back."""
