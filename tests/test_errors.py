import unittest

from coolbook import errors
from coolbook.errors import BadStory, BadText, CoolError, NotLet

OF_A_TEXT = (
    "BadName", "BadHour", "BadWarmth", "BadPage", "BadBook", "BadGrade", "BadTrack",
    "BadDeed", "BadLot", "BadTable", "BadJob", "BadPaper", "TooMany",
)
OF_FIELDS = ("BadText", "NotLet", "BadStory")


class Classes(unittest.TestCase):
    def test_cool_error_is_a_value_error(self):
        self.assertEqual(CoolError.__bases__, (ValueError,))

    def test_each_stands_straight_under_cool_error(self):
        for name in OF_A_TEXT + OF_FIELDS:
            with self.subTest(name):
                self.assertEqual(getattr(errors, name).__bases__, (CoolError,))
                self.assertEqual(getattr(errors, name).__name__, name)

    def test_each_is_a_class_of_its_own(self):
        made = {getattr(errors, name) for name in OF_A_TEXT + OF_FIELDS}
        self.assertEqual(len(made), len(OF_A_TEXT + OF_FIELDS))

    def test_none_stands_under_another_one(self):
        made = [getattr(errors, name) for name in OF_A_TEXT + OF_FIELDS]
        for one in made:
            for other in made:
                if one is not other:
                    self.assertFalse(issubclass(one, other), (one, other))

    def test_made_of_a_text(self):
        for name in OF_A_TEXT:
            with self.subTest(name):
                made = getattr(errors, name)("why")
                self.assertIsInstance(made, ValueError)
                self.assertEqual(str(made), "why")

    def test_caught_as_cool_error_and_as_value_error(self):
        for name in OF_A_TEXT:
            for wide in (CoolError, ValueError):
                with self.subTest(name), self.assertRaises(wide):
                    raise getattr(errors, name)("why")


class Fields(unittest.TestCase):
    def test_bad_text(self):
        made = BadText(3, 7)
        self.assertEqual((made.line, made.word), (3, 7))
        made = BadText(0, 0)
        self.assertEqual((made.line, made.word), (0, 0))
        self.assertIsInstance(str(made), str)

    def test_not_let(self):
        for told in (("spent", 4, 0), ("waits", 9, "a")):
            made = NotLet(told)
            self.assertEqual(made.told, told)
            self.assertIsInstance(str(made), str)

    def test_bad_story(self):
        for place in (0, 199, None):
            made = BadStory(place)
            self.assertEqual(made.place, place)
            self.assertIsInstance(str(made), str)

    def test_fields_of_one_are_not_those_of_another(self):
        one, other = BadText(1, 2), BadText(3, 4)
        self.assertEqual((one.line, one.word, other.line, other.word), (1, 2, 3, 4))


if __name__ == "__main__":
    unittest.main()
