"""The refusals: points 2 and the interface's part on errors."""

import unittest

from sorthall import errors

FLAW = ("flaw", "both", (0, 1, 0))

REFUSALS = [
    (errors.NoRule, (), ()),
    (errors.NoPaper, (), ()),
    (errors.NoPlace, (), ()),
    (errors.NoKey, (), ()),
    (errors.NoRow, (3,), ("line",)),
    (errors.NoOrder, (FLAW,), ("flaw",)),
    (errors.TooFar, (5, [1, 2, 4]), ("place", "others")),
    (errors.Spent, (7,), ("asked",)),
]


class Refusals(unittest.TestCase):
    def test_there_are_eight_unlike_classes(self):
        self.assertEqual(len({kind for kind, made_of, fields in REFUSALS}), 8)

    def test_hall_error_is_a_value_error(self):
        self.assertTrue(issubclass(errors.HallError, ValueError))
        self.assertIsInstance(errors.HallError(), ValueError)

    def test_fields_are_what_they_are_made_of(self):
        for kind, made_of, fields in REFUSALS:
            made = kind(*made_of)
            for field, value in zip(fields, made_of, strict=True):
                self.assertEqual(getattr(made, field), value, kind)
                self.assertIs(type(getattr(made, field)), type(value), kind)

    def test_fields_are_the_names_of_the_arguments(self):
        for kind, made_of, fields in REFUSALS:
            made = kind(**dict(zip(fields, made_of, strict=True)))
            self.assertEqual([getattr(made, field) for field in fields], list(made_of))

    def test_each_is_a_hall_error_and_a_value_error(self):
        for kind, made_of, fields in REFUSALS:
            self.assertIsInstance(kind(*made_of), errors.HallError)
            self.assertIsInstance(kind(*made_of), ValueError)

    def test_none_is_another_one(self):
        for kind, made_of, fields in REFUSALS:
            made = kind(*made_of)
            for other, other_made_of, other_fields in REFUSALS:
                self.assertEqual(isinstance(made, other), other is kind, (kind, other))

    def test_each_can_be_raised_and_taken(self):
        for kind, made_of, fields in REFUSALS:
            with self.assertRaises(errors.HallError) as taken:
                raise kind(*made_of)
            self.assertIs(type(taken.exception), kind)


class TooFarKeepsACopy(unittest.TestCase):
    def test_the_list_handed_in_is_not_held(self):
        others = [1, 2]
        made = errors.TooFar(4, others)
        others.append(3)
        self.assertEqual(made.others, [1, 2])
        self.assertFalse(any(value is others for value in vars(made).values()))
        self.assertFalse(any(value is others for value in made.args))

    def test_the_list_handed_in_stays_as_it_is(self):
        others = [1, 2]
        made = errors.TooFar(4, others)
        made.others.append(3)
        self.assertEqual(others, [1, 2])


if __name__ == "__main__":
    unittest.main()
