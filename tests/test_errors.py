"""The classes of bankshare/errors.py and their fields."""

import unittest

from bankshare import errors

WITH_PLACE = ("NoGround", "NoLength", "NoText")
WITH_GROUND = ("Odd", "Uneven")
WITHOUT_FIELD = ("OffBank", "NoHeirs")
ALL = WITH_PLACE + WITH_GROUND + WITHOUT_FIELD


class Errors(unittest.TestCase):
    def test_all_stand_under_bank_error_and_value_error(self):
        self.assertTrue(issubclass(errors.BankError, ValueError))
        for name in ALL:
            with self.subTest(name):
                self.assertTrue(issubclass(getattr(errors, name), errors.BankError))
                self.assertTrue(issubclass(getattr(errors, name), ValueError))

    def test_none_stands_under_another(self):
        for name in ALL:
            for other in ALL:
                if name != other:
                    with self.subTest(name=name, other=other):
                        self.assertFalse(issubclass(getattr(errors, name), getattr(errors, other)))

    def test_bank_error_is_none_of_the_others(self):
        for name in ALL:
            with self.subTest(name):
                self.assertFalse(issubclass(errors.BankError, getattr(errors, name)))

    def test_place_is_set_when_made(self):
        for name in WITH_PLACE:
            for place in (0, 1, 299):
                with self.subTest(name=name, place=place):
                    self.assertEqual(getattr(errors, name)(place).place, place)

    def test_ground_is_set_when_made(self):
        for name in WITH_GROUND:
            for ground in ("dry", "wet"):
                with self.subTest(name=name, ground=ground):
                    self.assertEqual(getattr(errors, name)(ground).ground, ground)

    def test_fields_belong_to_the_object_not_to_the_class(self):
        for name in WITH_PLACE:
            first = getattr(errors, name)(3)
            getattr(errors, name)(4)
            self.assertEqual(first.place, 3)
        for name in WITH_GROUND:
            first = getattr(errors, name)("dry")
            getattr(errors, name)("wet")
            self.assertEqual(first.ground, "dry")

    def test_those_without_a_field_are_made_and_raised(self):
        for name in WITHOUT_FIELD:
            with self.subTest(name), self.assertRaises(errors.BankError):
                raise getattr(errors, name)("words")


if __name__ == "__main__":
    unittest.main()
