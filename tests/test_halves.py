"""[7]: the half place, and Odd."""

import unittest

from bankshare.banks import between, ground_of, length, rest, tidy
from bankshare.errors import BankError, Odd
from bankshare.halves import half_place
from samples import SIXTY, half_places, letters, mixed_banks, small_banks, times


def even_banks():
    return [bank for bank in small_banks(5, 4) if ground_of(bank)[0] % 2 == 0 and ground_of(bank)[1] % 2 == 0]


class HalfPlace(unittest.TestCase):
    def test_the_bank_without_ground(self):
        self.assertEqual(half_place([]), 0)

    def test_one_stretch(self):
        for ground in ("dry", "wet"):
            for long in (2, 4, 60, SIXTY - 1):
                self.assertEqual(half_place([(ground, long)]), 0)

    def test_two_stretches(self):
        self.assertEqual(half_place([("dry", 4), ("wet", 4)]), 2)
        self.assertEqual(half_place([("wet", 4), ("dry", 4)]), 2)
        self.assertEqual(half_place([("dry", 2), ("wet", 10)]), 1)
        self.assertEqual(half_place([("dry", 10), ("wet", 2)]), 5)

    def test_a_place_of_0_in_a_bank_of_many(self):
        self.assertEqual(half_place([("dry", 3), ("wet", 2), ("dry", 3), ("wet", 2)]), 0)
        self.assertEqual(half_place([("dry", 1), ("wet", 2), ("dry", 1)]), 0)

    def test_a_place_within_a_stretch(self):
        self.assertEqual(half_place([("dry", 1), ("wet", 3), ("dry", 3), ("wet", 1)]), 2)
        self.assertEqual(half_place([("dry", 3), ("wet", 1), ("dry", 1), ("wet", 1)]), 1)

    def test_a_place_at_a_stretch_s_end(self):
        self.assertEqual(half_place([("dry", 2), ("wet", 1), ("dry", 2), ("wet", 3)]), 2)
        self.assertEqual(half_place([("wet", 1), ("dry", 1), ("wet", 1), ("dry", 3)]), 1)

    def test_the_least_of_several(self):
        bank = [("dry", 1), ("wet", 2), ("dry", 1), ("wet", 4)]
        self.assertEqual(half_places(letters(bank)), [1, 2, 3])
        self.assertEqual(half_place(bank), 1)
        bank = [("dry", 2), ("wet", 2), ("dry", 2), ("wet", 2)]
        self.assertEqual(half_places(letters(bank)), [0, 1, 2, 3, 4])
        self.assertEqual(half_place(bank), 0)

    def test_every_small_bank(self):
        for bank in even_banks():
            self.assertEqual(half_place(bank), half_places(letters(bank))[0], bank)

    def test_banks_of_many_stretches(self):
        for bank in mixed_banks(2, 100, 40):
            self.assertEqual(half_place(bank), half_places(letters(bank))[0], bank)

    def test_three_hundred_stretches(self):
        bank = [("dry", 1 + k * 7 % 11) if k % 2 == 0 else ("wet", 1 + k * 5 % 13) for k in range(298)]
        dry, wet = ground_of(bank)
        bank = bank + [("dry", 2 - dry % 2), ("wet", 2 - wet % 2)]
        self.assertEqual(half_place(bank), half_places(letters(bank))[0])

    def test_kind(self):
        for bank in ([], [("dry", 2)], [("dry", 4), ("wet", 4)]):
            self.assertIs(type(half_place(bank)), int)


class GreatLongs(unittest.TestCase):
    def test_told_by_hand(self):
        self.assertEqual(half_place([("dry", SIXTY - 1), ("wet", 2)]), (SIXTY - 1) // 2)
        self.assertEqual(half_place([("wet", 2), ("dry", SIXTY - 1)]), 1)
        self.assertEqual(half_place([("dry", SIXTY), ("wet", SIXTY - 1), ("dry", SIXTY)]), 0)
        # The first half is short of dry ground by 2; from the place SIXTY - 2 on, each place wins one.
        bank = [("wet", SIXTY), ("dry", SIXTY - 4), ("wet", SIXTY), ("dry", SIXTY)]
        self.assertEqual(half_place(bank), SIXTY)

    def test_all_longs_times_one_factor(self):
        factor = SIXTY // 4
        for bank in even_banks():
            self.assertEqual(half_place(times(bank, factor)), half_place(bank) * factor, bank)

    def test_it_halves_both_grounds(self):
        bank = [("dry", SIXTY - k * k * 10 ** 55) if k % 2 == 0 else ("wet", SIXTY - 7 ** k) for k in range(60)]
        self.assertEqual([total % 2 for total in ground_of(bank)], [0, 0])
        place, half = half_place(bank), length(bank) // 2
        self.assertTrue(0 <= place <= half)
        self.assertEqual(between(bank, place, place + half), tuple(total // 2 for total in ground_of(bank)))

    def test_longer_longs_in_banks_told_before(self):
        bank = tidy([("dry", SIXTY)] * 150 + [("wet", SIXTY)] * 150)
        self.assertEqual(half_place(bank), 75 * SIXTY)
        bank = rest([("dry", SIXTY), ("wet", 1), ("dry", SIXTY), ("wet", 2)], SIXTY, SIXTY + 1)
        self.assertEqual(half_place(bank), SIXTY)


class OddSums(unittest.TestCase):
    def refused(self, bank, ground):
        before = list(bank)
        with self.assertRaises(BankError) as caught:
            half_place(bank)
        self.assertIs(type(caught.exception), Odd, bank)
        self.assertEqual(caught.exception.ground, ground, bank)
        self.assertEqual(bank, before)

    def test_dry(self):
        self.refused([("dry", 1)], "dry")
        self.refused([("dry", 3), ("wet", 2)], "dry")
        self.refused([("wet", 2), ("dry", 3)], "dry")
        self.refused([("dry", SIXTY)], "dry")

    def test_wet(self):
        self.refused([("wet", 1)], "wet")
        self.refused([("dry", 2), ("wet", 3)], "wet")
        self.refused([("wet", 3), ("dry", 2)], "wet")
        self.refused([("dry", SIXTY - 1), ("wet", SIXTY)], "wet")

    def test_both(self):
        self.refused([("dry", 1), ("wet", 1)], "dry")
        self.refused([("wet", 1), ("dry", 1)], "dry")
        self.refused([("wet", SIXTY), ("dry", SIXTY)], "dry")

    def test_an_even_sum_of_odd_longs_is_none(self):
        self.assertEqual(half_place([("dry", 1), ("wet", 2), ("dry", 3)]), 2)

    def test_just_where_a_sum_is_odd(self):
        for bank in small_banks():
            dry, wet = ground_of(bank)
            if dry % 2 == 1 or wet % 2 == 1:
                self.refused(bank, "dry" if dry % 2 == 1 else "wet")
            else:
                half_place(bank)


class HandedIn(unittest.TestCase):
    def test_what_is_handed_in_stays(self):
        for bank in even_banks():
            before = list(bank)
            first = half_place(bank)
            self.assertEqual(bank, before)
            self.assertEqual(half_place(bank), first)


if __name__ == "__main__":
    unittest.main()
