"""The errors of the package, each straight under one base class."""


class ArmError(ValueError):
    """What all errors of this package are."""


class InvalidComplex(ArmError):
    """What is no pair of whole numbers."""

    def __init__(self, given):
        self.given = given


class InvalidNumbers(ArmError):
    """What is no tuple of one to eight complex numbers, not all (0, 0)."""

    def __init__(self, given):
        self.given = given


class InvalidPlace(ArmError):
    """What is no place."""

    def __init__(self, given):
        self.given = given


class InvalidRatio(ArmError):
    """What is no place that is read as a number, or not one that may stand there."""

    def __init__(self, given):
        self.given = given


class InvalidRow(ArmError):
    """What is no row."""

    def __init__(self, given):
        self.given = given


class InvalidRound(ArmError):
    """What is no round."""

    def __init__(self, given):
        self.given = given


class InvalidLine(ArmError):
    """What is no line."""

    def __init__(self, given):
        self.given = given


class InvalidMap(ArmError):
    """What is no map, or not one that may stand there."""

    def __init__(self, given):
        self.given = given


class InvalidFlag(ArmError):
    """What is neither 0 nor 1."""

    def __init__(self, given):
        self.given = given


class InvalidNumber(ArmError):
    """What is no whole number within the limits."""

    def __init__(self, given):
        self.given = given


class InvalidCell(ArmError):
    """What is no cell, or not one that may stand there."""

    def __init__(self, given):
        self.given = given


class InvalidHand(ArmError):
    """What is no hand, or not one that may stand there."""

    def __init__(self, given):
        self.given = given


class InvalidMirrorRow(ArmError):
    """What is no mirror row."""

    def __init__(self, given):
        self.given = given


class InvalidRing(ArmError):
    """What is no ring."""

    def __init__(self, given):
        self.given = given


class InvalidExponents(ArmError):
    """What is no tuple of as many exponents as there are stocked ratios."""

    def __init__(self, given):
        self.given = given


class InvalidSize(ArmError):
    """What is no size."""

    def __init__(self, given):
        self.given = given


class InvalidStage(ArmError):
    """What is no stage of the arm."""

    def __init__(self, given):
        self.given = given


class InvalidIndex(ArmError):
    """What is no index of something that is there."""

    def __init__(self, given):
        self.given = given


class InvalidPart(ArmError):
    """What is no part of the cell."""

    def __init__(self, given):
        self.given = given


class InvalidValue(ArmError):
    """What may not stand in the part of the cell."""

    def __init__(self, given):
        self.given = given


class InvalidName(ArmError):
    """What is no name of an arm."""

    def __init__(self, given):
        self.given = given


class InvalidWish(ArmError):
    """What is no wish."""

    def __init__(self, given):
        self.given = given


class InvalidPhrase(ArmError):
    """What is no line that a console understands."""

    def __init__(self, given):
        self.given = given


class InvalidLot(ArmError):
    """What is no tree of a lot."""

    def __init__(self, given):
        self.given = given


class InvalidFraction(ArmError):
    """What is no reduced fraction above 0."""

    def __init__(self, given):
        self.given = given


class InvalidSign(ArmError):
    """What is no sign, or not one that may stand there."""

    def __init__(self, given):
        self.given = given


class InvalidArc(ArmError):
    """What is no arc."""

    def __init__(self, given):
        self.given = given


class NotALot(ArmError):
    """What is no lot."""

    def __init__(self, given):
        self.given = given


class NotAWorkshop(ArmError):
    """What is no workshop."""

    def __init__(self, given):
        self.given = given


class NoMeeting(ArmError):
    """A sign with which two rounds have no meeting."""

    def __init__(self, given):
        self.given = given


class NoLink(ArmError):
    """A round that is no link of two others."""

    def __init__(self, given):
        self.given = given


class OnCurve(ArmError):
    """A place that lies on the curve."""

    def __init__(self, given):
        self.given = given


class Same(ArmError):
    """Something that is equal to something before it."""

    def __init__(self, given):
        self.given = given


class TooMany(ArmError):
    """A number of rounds that is above eight."""

    def __init__(self, given):
        self.given = given


class UnknownName(ArmError):
    """A name that is not there."""

    def __init__(self, given):
        self.given = given


class InvalidTriple(ArmError):
    """What is no tuple of three different places."""

    def __init__(self, index):
        self.index = index


class InvalidArm(ArmError):
    """What is no arm."""

    def __init__(self, index):
        self.index = index


class InvalidRounds(ArmError):
    """What is no tuple of different rounds."""

    def __init__(self, index):
        self.index = index


class InvalidCurve(ArmError):
    """What is no curve."""

    def __init__(self, index):
        self.index = index


class InvalidTests(ArmError):
    """What is no tuple of tests."""

    def __init__(self, index):
        self.index = index


class InvalidStock(ArmError):
    """What is no stock."""

    def __init__(self, index):
        self.index = index


class InvalidKinds(ArmError):
    """What is no tuple of unlike words for cells."""

    def __init__(self, index):
        self.index = index


class InUse(ArmError):
    """A wish names what shall be dropped."""

    def __init__(self, index):
        self.index = index


class Broken(ArmError):
    """A wish would not hold."""

    def __init__(self, index):
        self.index = index


class NoPlace(ArmError):
    """(0, 0) by (0, 0) is no place."""


class NoMap(ArmError):
    """Four numbers whose determinant is (0, 0) make no map."""


class NoMapFits(ArmError):
    """No map fits the tests."""


class NoRowFits(ArmError):
    """No mirror row fits the tests."""


class NotClosed(ArmError):
    """The curve is not closed."""


class NotSimple(ArmError):
    """The curve comes to some place twice."""


class Meets(ArmError):
    """The two rounds share a place."""


class NothingToUndo(ArmError):
    """There is no change to take back."""
