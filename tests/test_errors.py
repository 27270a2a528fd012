"""Point 4: the refusals, their fields, and what they stand under."""

import unittest

from homeward import errors
from homeward.errors import (
    HomeError, NoPlan, NoRoom, NoRow, NotThere, NoText, There, TooMany, Unkept, Unlike, Wrong,
)

from tests.helpers import Stranger, ring_in_itself

FIELDS = [
    (Wrong, ["at"]), (NoRoom, ["room"]), (There, ["key"]), (NotThere, ["key"]), (Unkept, ["word", "room"]),
    (Unlike, []), (NoText, ["at"]), (NoRow, []), (NoPlan, []), (TooMany, ["most"]),
]
ANY_THINGS = [
    0, 7, -1, 10 ** 18, 10 ** 5000, 0.5, float("nan"), "", "text", None, True, (), [], [[]], {}, {"a": []}, set(),
    object(), Stranger(), ring_in_itself(), int, ValueError("x"),
]


class Refusals(unittest.TestCase):
    def test_home_error_stands_straight_under_value_error(self):
        self.assertEqual(HomeError.__bases__, (ValueError,))

    def test_each_stands_under_home_error(self):
        for refusal, names in FIELDS:
            self.assertTrue(issubclass(refusal, HomeError), refusal)
            self.assertIsNot(refusal, HomeError)

    def test_none_stands_under_another_one(self):
        for one, names in FIELDS:
            for other, others in FIELDS:
                if one is not other:
                    self.assertFalse(issubclass(one, other), (one, other))

    def test_there_are_just_these(self):
        kinds = [thing for thing in vars(errors).values() if isinstance(thing, type) and issubclass(thing, HomeError)]
        self.assertEqual(set(kinds), {HomeError} | {refusal for refusal, names in FIELDS})

    def test_each_keeps_the_very_things_that_it_is_made_of(self):
        for refusal, names in FIELDS:
            for thing in ANY_THINGS:
                things = [thing, [thing]][:len(names)]
                made = refusal(*things)
                self.assertEqual(sorted(vars(made)), sorted(names))
                for name, kept in zip(names, things):
                    self.assertIs(getattr(made, name), kept)

    def test_word_and_room_are_not_mixed_up(self):
        made = Unkept("order", 4)
        self.assertEqual((made.word, made.room), ("order", 4))

    def test_each_is_made_of_as_many_things_as_told(self):
        for refusal, names in FIELDS:
            for many in range(len(names)):
                with self.assertRaises(TypeError):
                    refusal(*range(many))

    def test_each_can_be_raised_and_taken_by_each_name_above_it(self):
        for refusal, names in FIELDS:
            for above in (refusal, HomeError, ValueError):
                with self.assertRaises(above):
                    raise refusal(*range(len(names)))

    def test_fields_belong_to_one_object_alone(self):
        one, other = Wrong(1), Wrong(2)
        self.assertEqual((one.at, other.at), (1, 2))


if __name__ == "__main__":
    unittest.main()
