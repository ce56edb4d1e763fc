"""Point 3: the error classes."""

import unittest

from wordhulls import errors

NAMES = (
    "InvalidWord",
    "InvalidNumber",
    "InvalidText",
    "InvalidReading",
    "NotOneWay",
    "NotApart",
    "NothingToUndo",
    "TooMany",
    "Unreadable",
)
UNDER_WORD_ERROR = [getattr(errors, name) for name in NAMES]
ALL = [errors.WordError] + UNDER_WORD_ERROR


def values():
    return [
        7,
        0,
        -1,
        10 ** 400,
        -(10 ** 400),
        True,
        False,
        "a text",
        "",
        b"bytes",
        [],
        ["a", ["b"]],
        (),
        ("a", 1),
        {},
        {"a": [1]},
        {1, 2},
        None,
        object(),
        ValueError("inner"),
        errors.InvalidWord("inner"),
        int,
    ]


class ErrorClassTest(unittest.TestCase):
    def test_value_by_position_is_the_very_object(self):
        for error_class in ALL:
            for value in values():
                with self.subTest(error_class=error_class, value=value):
                    self.assertIs(error_class(value).value, value)

    def test_value_by_name_is_the_very_object(self):
        for error_class in ALL:
            for value in values():
                with self.subTest(error_class=error_class, value=value):
                    self.assertIs(error_class(value=value).value, value)

    def test_value_is_kept_when_raised(self):
        for error_class in ALL:
            for value in values():
                with self.subTest(error_class=error_class, value=value):
                    with self.assertRaises(error_class) as caught:
                        raise error_class(value)
                    self.assertIs(type(caught.exception), error_class)
                    self.assertIs(caught.exception.value, value)

    def test_each_object_has_a_value_of_its_own(self):
        for error_class in ALL:
            one, other = error_class(1), error_class(2)
            self.assertEqual([one.value, other.value], [1, 2])

    def test_value_error_is_the_direct_base_of_word_error(self):
        self.assertEqual(errors.WordError.__bases__, (ValueError,))

    def test_word_error_is_the_direct_base_of_the_others(self):
        for error_class in UNDER_WORD_ERROR:
            self.assertEqual(error_class.__bases__, (errors.WordError,), error_class)

    def test_no_other_class_is_a_subclass_of_another_one(self):
        for one in UNDER_WORD_ERROR:
            self.assertFalse(issubclass(errors.WordError, one))
            for other in UNDER_WORD_ERROR:
                self.assertEqual(issubclass(one, other), one is other, (one, other))

    def test_names(self):
        for name in NAMES + ("WordError",):
            error_class = getattr(errors, name)
            self.assertEqual(error_class.__name__, name)
            self.assertEqual(error_class.__module__, "wordhulls.errors")

    def test_they_are_unlike(self):
        for place, one in enumerate(ALL):
            for other in ALL[:place]:
                self.assertIsNot(one, other)


if __name__ == "__main__":
    unittest.main()
