"""Point 4 and the interface's section of loveboon/errors.py."""

import unittest

from loveboon import errors
from loveboon.errors import BoonError
from loveboon.gifts import box, giving_of, number_of

WORDS = {
    "BadGiving": "bad giving",
    "BadPledge": "bad pledge",
    "TooMany": "too many",
    "NotKept": "not kept",
    "NotClear": "not clear",
    "NotEven": "not even",
    "NoFolk": "no folk",
    "Gone": "gone",
    "NoPledge": "no pledge",
    "Bound": "bound",
    "NotDue": "not due",
    "BadRise": "bad rise",
    "Full": "full",
    "NothingLeft": "nothing left",
    "BadText": "bad text",
}


class ErrorsTest(unittest.TestCase):
    def test_all_classes_are_there_and_no_other(self):
        found = {name for name, thing in vars(errors).items() if isinstance(thing, type)}
        self.assertEqual(found, set(WORDS) | {"BoonError"})

    def test_bases(self):
        self.assertEqual(BoonError.__bases__, (ValueError,))
        for name in WORDS:
            self.assertEqual(getattr(errors, name).__bases__, (BoonError,), name)

    def test_words(self):
        for name, word in WORDS.items():
            with self.assertRaises(BoonError) as caught:
                raise getattr(errors, name)()
            self.assertEqual(type(caught.exception).__name__, name)
            self.assertEqual(caught.exception.word, word)
            self.assertIs(type(caught.exception.word), str)

    def test_any_refusal_has_the_word_that_it_is_made_with(self):
        self.assertEqual(BoonError("some word").word, "some word")

    def test_words_of_what_is_raised(self):
        refused = (
            (lambda: box((9, 9, 9, 9)), errors.TooMany, "too many"),
            (lambda: number_of((1,), (2,)), errors.BadGiving, "bad giving"),
            (lambda: giving_of((1,), 2), errors.BadGiving, "bad giving"),
        )
        for ask, told, word in refused:
            with self.assertRaises(BoonError) as caught:
                ask()
            self.assertIs(type(caught.exception), told)
            self.assertEqual(caught.exception.word, word)


if __name__ == "__main__":
    unittest.main()
