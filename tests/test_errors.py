import unittest

from keptnest.errors import (
    NestError, NoAsk, NoChange, NoDifference, NoFlat, NoKeep, NoKind, NoPlan, NoQuestion, NoTurning, NoValue,
)

OF_A_TEXT = (NoValue, NoQuestion, NoDifference, NoChange, NoTurning, NoFlat, NoPlan, NoKeep, NoAsk)
REFUSALS = OF_A_TEXT + (NoKind,)


class TestErrors(unittest.TestCase):
    def test_each_stands_under_the_one_and_that_under_value_error(self):
        self.assertEqual(NestError.__bases__, (ValueError,))
        for refusal in REFUSALS:
            self.assertTrue(issubclass(refusal, NestError), refusal)

    def test_none_stands_under_another_one(self):
        self.assertEqual(len(set(REFUSALS)), len(REFUSALS))
        for one in REFUSALS:
            for other in REFUSALS:
                self.assertEqual(issubclass(one, other), one is other, (one, other))

    def test_each_bears_its_name(self):
        names = ["NoValue", "NoQuestion", "NoDifference", "NoChange", "NoTurning", "NoFlat", "NoPlan", "NoKeep",
                 "NoAsk", "NoKind"]
        self.assertEqual([refusal.__name__ for refusal in REFUSALS], names)

    def test_all_but_no_kind_are_made_of_a_text(self):
        for refusal in OF_A_TEXT + (NestError,):
            self.assertEqual(str(refusal("some words")), "some words")

    def test_no_kind_keeps_its_path(self):
        for path in ((), (0,), (1, 0, 2)):
            told = NoKind(path)
            self.assertEqual(told.path, path)
            self.assertIsInstance(told.path, tuple)

    def test_paths_of_two_are_their_own(self):
        one, other = NoKind((1,)), NoKind((2, 3))
        self.assertEqual((one.path, other.path), ((1,), (2, 3)))

    def test_each_is_taken_by_its_own_name_and_by_the_one(self):
        for refusal in REFUSALS:
            for taken in (refusal, NestError, ValueError):
                with self.assertRaises(taken):
                    raise refusal(())
