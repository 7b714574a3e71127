"""Promise [4]: the classes of errors."""

import inspect
import unittest

from drawarms import errors
from tests.support import ANYTHING, STUBBORN

WITH_GIVEN = """
    InvalidComplex InvalidNumbers InvalidPlace InvalidRatio InvalidRow InvalidRound InvalidLine InvalidMap InvalidFlag
    InvalidNumber InvalidCell InvalidHand InvalidMirrorRow InvalidRing InvalidExponents InvalidSize InvalidStage
    InvalidIndex InvalidPart InvalidValue InvalidName InvalidWish InvalidPhrase InvalidLot InvalidFraction InvalidSign
    InvalidArc NotALot NotAWorkshop NoMeeting NoLink OnCurve Same TooMany UnknownName
""".split()
WITH_INDEX = "InvalidTriple InvalidArm InvalidRounds InvalidCurve InvalidTests InvalidStock InvalidKinds InUse Broken".split()
BARE = "NoPlace NoMap NoMapFits NoRowFits NotClosed NotSimple Meets NothingToUndo".split()


class ErrorClasses(unittest.TestCase):
    def test_all_classes_and_no_others(self):
        found = {name for name, value in vars(errors).items() if inspect.isclass(value)}
        self.assertEqual(found, {"ArmError", *WITH_GIVEN, *WITH_INDEX, *BARE})
        self.assertEqual((len(WITH_GIVEN), len(WITH_INDEX), len(BARE)), (35, 9, 8))

    def test_base_class(self):
        self.assertEqual(errors.ArmError.__bases__, (ValueError,))
        self.assertEqual(vars(errors.ArmError()), {})

    def test_each_class_stands_straight_under_the_base(self):
        for name in WITH_GIVEN + WITH_INDEX + BARE:
            self.assertEqual(getattr(errors, name).__mro__[1:], errors.ArmError.__mro__, name)
            self.assertEqual(getattr(errors, name).__module__, "drawarms.errors")
            self.assertEqual(getattr(errors, name).__name__, name)

    def test_no_class_catches_another_one(self):
        for name in WITH_GIVEN + WITH_INDEX + BARE:
            for other in WITH_GIVEN + WITH_INDEX + BARE:
                caught = issubclass(getattr(errors, name), getattr(errors, other))
                self.assertEqual(caught, name == other)

    def check_attribute(self, names, attribute):
        for name in names:
            made = getattr(errors, name)
            for value in ANYTHING + [errors.NoMap(), made, 1.5, nested_errors()]:
                for error in (made(value), made(**{attribute: value})):
                    self.assertEqual(list(vars(error)), [attribute])
                    self.assertIs(getattr(error, attribute), value)
                    self.assertIsInstance(error, ValueError)

    def test_given_is_kept(self):
        self.check_attribute(WITH_GIVEN, "given")

    def test_index_is_kept(self):
        self.check_attribute(WITH_INDEX, "index")

    def test_the_attribute_has_to_be_told(self):
        for name in WITH_GIVEN + WITH_INDEX:
            with self.assertRaises(TypeError):
                getattr(errors, name)()

    def test_bare_classes_have_no_attributes(self):
        for name in BARE:
            self.assertEqual(vars(getattr(errors, name)()), {})

    def test_they_can_be_raised_and_caught_under_the_base(self):
        with self.assertRaises(errors.ArmError) as caught:
            raise errors.TooMany(9)
        self.assertEqual(caught.exception.given, 9)
        with self.assertRaises(ValueError):
            raise errors.Broken(index=0)


def nested_errors():
    return (errors.Same(STUBBORN), [errors.InUse(index=None)])


if __name__ == "__main__":
    unittest.main()
