import unittest

from sumshare import errors
from sumshare.errors import NoText, ShareError, Twice

PLAIN_NAMES = (
    "NoRoom", "NoShare", "TooCoarse", "NoNumber", "NoPlace", "NoMark", "NoCells",
    "NoDays", "NoFrame", "NoParcel", "NoRow", "NoName",
)
NAMES = PLAIN_NAMES + ("Twice", "NoText")


class ErrorsTest(unittest.TestCase):
    def test_share_error_stands_under_value_error(self):
        self.assertEqual(ShareError.__bases__, (ValueError,))

    def test_fourteen_classes_each_straight_under_share_error(self):
        self.assertEqual(len(set(NAMES)), 14)
        for name in NAMES:
            with self.subTest(name):
                error = getattr(errors, name)
                self.assertEqual(error.__name__, name)
                self.assertEqual(error.__bases__, (ShareError,))
                self.assertTrue(issubclass(error, ValueError))

    def test_none_stands_under_another_one(self):
        for name in NAMES:
            for other in NAMES:
                if name != other:
                    with self.subTest(name + " under " + other):
                        self.assertFalse(issubclass(getattr(errors, name), getattr(errors, other)))

    def test_plain_ones_are_made_with_and_without_words_and_taken(self):
        for name in PLAIN_NAMES:
            error = getattr(errors, name)
            for base in (error, ShareError, ValueError):
                with self.subTest(name):
                    with self.assertRaises(base):
                        raise error("words")
                    with self.assertRaises(base):
                        raise error()

    def test_those_with_a_value_are_taken(self):
        for base in (Twice, ShareError, ValueError):
            with self.assertRaises(base):
                raise Twice([("a", 0)])
        for base in (NoText, ShareError, ValueError):
            with self.assertRaises(base):
                raise NoText(0)

    def test_twice_keeps_alike(self):
        for alike in ([], [("a", 0)], [("a", 0), ("a", 10), ("b", 2)]):
            with self.subTest(alike):
                self.assertEqual(Twice(alike).alike, alike)
                self.assertIsInstance(Twice(alike).alike, list)

    def test_alike_is_the_askers_own(self):
        alike = [("a", 0)]
        error = Twice(alike)
        alike.append(("b", 1))
        self.assertEqual(error.alike, [("a", 0)])
        error.alike.clear()
        self.assertEqual(alike, [("a", 0), ("b", 1)])

    def test_no_text_keeps_line(self):
        for line in (0, 1, 6, 20000):
            with self.subTest(line):
                self.assertEqual(NoText(line).line, line)

    def test_values_of_two_errors_stay_apart(self):
        first, second = NoText(3), NoText(4)
        self.assertEqual((first.line, second.line), (3, 4))
        one, other = Twice([("a", 0)]), Twice([("b", 0)])
        self.assertEqual((one.alike, other.alike), ([("a", 0)], [("b", 0)]))
