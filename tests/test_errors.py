import inspect
import unittest

from hidhalves import errors
from hidhalves.errors import HalvesError
from tests.things import odd_things

PLAIN = ["NoRow", "NoRoom", "NoNumber", "NoParting", "NoKnot", "NoPlace", "NoRule", "NoHalf", "NoOrder", "NoUndo",
         "NoLikeness", "NoCall"]
FIELDS = {"NoName": "name", "NoText": "row", "NoTree": "crossing", "NoFit": "bar"}


class Errors(unittest.TestCase):
    def test_the_base_stands_straight_under_value_error(self):
        self.assertEqual(HalvesError.__bases__, (ValueError,))

    def test_each_refusal_is_there_straight_under_the_base(self):
        for name in PLAIN + list(FIELDS):
            with self.subTest(name):
                found = getattr(errors, name)
                self.assertEqual(found.__name__, name)
                self.assertEqual(found.__bases__, (HalvesError,))

    def test_there_are_no_others(self):
        classes = [name for name, thing in vars(errors).items() if inspect.isclass(thing)]
        self.assertEqual(sorted(classes), sorted(PLAIN + list(FIELDS) + ["HalvesError"]))

    def test_none_stands_under_another(self):
        classes = [getattr(errors, name) for name in PLAIN + list(FIELDS)]
        for one in classes:
            for other in classes:
                self.assertEqual(issubclass(one, other), one is other)

    def test_plain_ones_are_raised_with_words_or_without(self):
        for name in PLAIN + ["HalvesError"]:
            found = getattr(errors, name)
            with self.assertRaises(found):
                raise found()
            with self.assertRaises(ValueError):
                raise found("words")
            self.assertEqual(str(found("words")), "words")

    def test_fields_are_set_to_what_was_handed_in(self):
        for name, field in FIELDS.items():
            for thing in odd_things() + [0, 3, "abc", (0, 1, ("nn", "ny", "yn", "yy")), ("four", 0, 1, ("a",) * 4)]:
                with self.subTest(name):
                    self.assertIs(getattr(getattr(errors, name)(thing), field), thing)

    def test_fields_of_one_do_not_stand_in_another(self):
        one, other = errors.NoName("a"), errors.NoName("b")
        self.assertEqual((one.name, other.name), ("a", "b"))


if __name__ == "__main__":
    unittest.main()
