"""Promise 3, and of 36 the class Stuck."""

import unittest

from newsways import errors

NAMES = [
    "NoSpan", "NoNumber", "NoField", "NoWish", "NoPiece", "TooMany", "NoName", "Twice", "NotWanted", "NoWeb",
    "NoPost", "NoRoad", "NoHand", "NoLetter", "OnTheWay", "Full", "NoStands", "NoDeed", "NoText", "NoRow",
]
TEXTS = ["", "a", "no such thing", " blanks about ", "two\nrows\tand a tab", "~!{}", "x" * 2000]


class Errors(unittest.TestCase):
    def classes(self):
        return [getattr(errors, name) for name in NAMES]

    def test_there_are_twenty(self):
        self.assertEqual(len(set(self.classes())), 20)
        for name, error in zip(NAMES, self.classes()):
            self.assertEqual(error.__name__, name)

    def test_the_first_class_stands_under_value_error(self):
        self.assertTrue(issubclass(errors.NewsError, ValueError))
        self.assertEqual(str(errors.NewsError("so")), "so")

    def test_each_stands_under_the_first_and_under_no_other_one(self):
        classes = self.classes() + [errors.Stuck]
        for error in classes:
            self.assertTrue(issubclass(error, errors.NewsError))
            self.assertIsNot(error, errors.NewsError)
            for other in classes:
                self.assertEqual(issubclass(error, other), error is other)

    def test_each_is_made_with_one_text_which_str_tells(self):
        for error in self.classes():
            for text in TEXTS:
                self.assertEqual(str(error(text)), text)

    def test_each_is_caught_by_its_name(self):
        for error in self.classes():
            with self.assertRaises(error) as caught:
                raise error("so")
            self.assertEqual(str(caught.exception), "so")


class Stuck(unittest.TestCase):
    def test_place_and_word(self):
        for place in (0, 1, 17, -3, 1999, 10 ** 15 - 1, 10 ** 30):
            for word in ("NoDeed", "Twice", "", "two words"):
                stuck = errors.Stuck(place, word)
                self.assertIs(type(stuck.place), int)
                self.assertEqual(stuck.place, place)
                self.assertEqual(stuck.word, word)
                self.assertEqual(str(stuck), str(place) + " " + word)

    def test_it_is_caught_as_a_refusal(self):
        with self.assertRaises(errors.NewsError) as caught:
            raise errors.Stuck(4, "NoHand")
        self.assertEqual(str(caught.exception), "4 NoHand")
        self.assertEqual((caught.exception.place, caught.exception.word), (4, "NoHand"))


if __name__ == "__main__":
    unittest.main()
