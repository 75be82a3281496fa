"""[1], [5], [6]: length and ground of a bank, the ground between two places, the bank cut out, and the rest."""

import unittest

from bankshare.banks import between, cut_out, ground_of, length, rest
from bankshare.errors import BankError, OffBank
from samples import SIXTY, bank_of, ground_in, letters, small_banks

BANK = [("dry", 3), ("wet", 4), ("dry", 5)]


class Whole(unittest.TestCase):
    def test_the_bank_without_ground(self):
        self.assertEqual(length([]), 0)
        self.assertEqual(ground_of([]), (0, 0))

    def test_small_banks(self):
        for bank in small_banks():
            self.assertEqual(length(bank), len(letters(bank)), bank)
            self.assertEqual(ground_of(bank), ground_in(letters(bank)), bank)

    def test_one_ground_alone(self):
        self.assertEqual(ground_of([("dry", 7)]), (7, 0))
        self.assertEqual(ground_of([("wet", 7)]), (0, 7))

    def test_longs_of_sixty_figures(self):
        bank = [("dry", SIXTY), ("wet", SIXTY - 1)] * 150
        self.assertEqual(length(bank), 150 * (2 * SIXTY - 1))
        self.assertEqual(ground_of(bank), (150 * SIXTY, 150 * (SIXTY - 1)))

    def test_kinds(self):
        self.assertIs(type(length(BANK)), int)
        self.assertIs(type(ground_of(BANK)), tuple)
        self.assertIs(type(between(BANK, 1, 2)), tuple)
        self.assertIs(type(cut_out(BANK, 1, 2)), list)
        self.assertIs(type(rest(BANK, 1, 2)), list)


class BetweenTwoPlaces(unittest.TestCase):
    def test_told_by_hand(self):
        self.assertEqual(between(BANK, 2, 5), (1, 2))
        self.assertEqual(cut_out(BANK, 2, 5), [("dry", 1), ("wet", 2)])
        self.assertEqual(rest(BANK, 2, 5), [("dry", 2), ("wet", 2), ("dry", 5)])

    def test_ends_of_stretches_and_one_beside_them(self):
        self.assertEqual(cut_out(BANK, 3, 7), [("wet", 4)])
        self.assertEqual(cut_out(BANK, 2, 7), [("dry", 1), ("wet", 4)])
        self.assertEqual(cut_out(BANK, 4, 7), [("wet", 3)])
        self.assertEqual(cut_out(BANK, 3, 6), [("wet", 3)])
        self.assertEqual(cut_out(BANK, 3, 8), [("wet", 4), ("dry", 1)])
        self.assertEqual(between(BANK, 3, 7), (0, 4))
        self.assertEqual(between(BANK, 2, 8), (2, 4))
        self.assertEqual(between(BANK, 4, 6), (0, 2))

    def test_within_one_stretch(self):
        self.assertEqual(cut_out(BANK, 4, 6), [("wet", 2)])
        self.assertEqual(rest(BANK, 4, 6), [("dry", 3), ("wet", 2), ("dry", 5)])
        self.assertEqual(rest([("wet", 9)], 4, 6), [("wet", 7)])

    def test_start_the_same_as_end(self):
        for place in range(13):
            self.assertEqual(between(BANK, place, place), (0, 0))
            self.assertEqual(cut_out(BANK, place, place), [])
            self.assertEqual(rest(BANK, place, place), BANK)

    def test_the_parts_of_the_rest_are_put_together(self):
        self.assertEqual(rest(BANK, 3, 7), [("dry", 8)])
        self.assertEqual(rest(BANK, 2, 8), [("dry", 6)])
        self.assertEqual(rest(BANK, 1, 2), [("dry", 2), ("wet", 4), ("dry", 5)])

    def test_the_parts_of_the_rest_that_differ_stay_apart(self):
        self.assertEqual(rest(BANK, 1, 3), [("dry", 1), ("wet", 4), ("dry", 5)])
        self.assertEqual(rest(BANK, 5, 7), [("dry", 3), ("wet", 2), ("dry", 5)])

    def test_all_of_it(self):
        self.assertEqual(between(BANK, 0, 12), (8, 4))
        self.assertEqual(cut_out(BANK, 0, 12), BANK)
        self.assertEqual(rest(BANK, 0, 12), [])

    def test_every_two_places_of_small_banks(self):
        for bank in small_banks():
            text = letters(bank)
            for start in range(len(text) + 1):
                for end in range(start, len(text) + 1):
                    told = (bank, start, end)
                    self.assertEqual(between(bank, start, end), ground_in(text[start:end]), told)
                    self.assertEqual(cut_out(bank, start, end), bank_of(text[start:end]), told)
                    self.assertEqual(rest(bank, start, end), bank_of(text[:start] + text[end:]), told)

    def test_longs_of_sixty_figures(self):
        bank = [("dry", SIXTY), ("wet", SIXTY), ("dry", SIXTY)]
        self.assertEqual(between(bank, SIXTY - 1, 2 * SIXTY + 1), (2, SIXTY))
        self.assertEqual(cut_out(bank, SIXTY - 1, 2 * SIXTY + 1), [("dry", 1), ("wet", SIXTY), ("dry", 1)])
        self.assertEqual(rest(bank, SIXTY - 1, 2 * SIXTY + 1), [("dry", 2 * SIXTY - 2)])
        self.assertEqual(rest(bank, SIXTY, 2 * SIXTY), [("dry", 2 * SIXTY)])

    def test_a_bank_told_before_may_have_longer_longs(self):
        bank = rest([("dry", SIXTY), ("wet", 1), ("dry", SIXTY)], SIXTY, SIXTY + 1)
        self.assertEqual(cut_out(bank, 1), [("dry", 2 * SIXTY - 1)])


class LeftOut(unittest.TestCase):
    def test_both(self):
        for bank in small_banks():
            self.assertEqual(between(bank), ground_in(letters(bank)))
            self.assertEqual(cut_out(bank), bank)
            self.assertEqual(rest(bank), [])

    def test_the_end_left_out_or_none(self):
        for bank in small_banks():
            whole = len(letters(bank))
            for start in range(whole + 1):
                for ask in (between, cut_out, rest):
                    wanted = ask(bank, start, whole)
                    self.assertEqual(ask(bank, start), wanted)
                    self.assertEqual(ask(bank, start, None), wanted)
                    self.assertEqual(ask(bank, start=start, end=None), wanted)

    def test_the_start_left_out(self):
        self.assertEqual(between(BANK, end=5), (3, 2))
        self.assertEqual(cut_out(BANK, end=5), [("dry", 3), ("wet", 2)])
        self.assertEqual(rest(BANK, end=5), [("wet", 2), ("dry", 5)])

    def test_an_end_of_0_is_not_left_out(self):
        self.assertEqual(between(BANK, 0, 0), (0, 0))
        self.assertEqual(cut_out(BANK, 0, 0), [])
        self.assertEqual(rest(BANK, 0, 0), BANK)

    def test_the_bank_without_ground(self):
        for places in ((), (0,), (0, 0), (0, None)):
            self.assertEqual(between([], *places), (0, 0))
            self.assertEqual(cut_out([], *places), [])
            self.assertEqual(rest([], *places), [])


class OffTheBank(unittest.TestCase):
    def refused(self, bank, *places):
        for ask in (between, cut_out, rest):
            with self.assertRaises(BankError) as caught:
                ask(bank, *places)
            self.assertIs(type(caught.exception), OffBank, (ask, bank, places))

    def test_told_by_hand(self):
        self.refused(BANK, -1)
        self.refused(BANK, -1, 5)
        self.refused(BANK, -1, -1)
        self.refused(BANK, 0, 13)
        self.refused(BANK, 12, 13)
        self.refused(BANK, 13)
        self.refused(BANK, 13, 13)
        self.refused(BANK, 5, 4)
        self.refused(BANK, 0, -1)
        self.refused(BANK, 13, 12)

    def test_the_bank_without_ground(self):
        self.refused([], 1)
        self.refused([], 0, 1)
        self.refused([], -1)
        self.refused([], -1, 0)
        self.refused([], 1, 0)

    def test_just_there_and_nowhere_else(self):
        for bank in small_banks(3, 2):
            whole = len(letters(bank))
            for start in range(-2, whole + 3):
                for end in range(-2, whole + 3):
                    if start < 0 or end < start or end > whole:
                        self.refused(bank, start, end)
                    else:
                        self.assertEqual(sum(between(bank, start, end)), end - start)

    def test_the_end_left_out(self):
        for bank in small_banks(3, 2):
            whole = len(letters(bank))
            for start in (-2, -1, whole + 1, whole + 2):
                self.refused(bank, start)
                self.refused(bank, start, None)

    def test_places_of_seventy_figures(self):
        self.refused(BANK, -10 ** 69)
        self.refused(BANK, 10 ** 69)
        self.refused(BANK, 0, 10 ** 69)
        self.refused(BANK, 0, -10 ** 69)
        self.refused([("dry", SIXTY)], 0, SIXTY + 1)
        self.refused([("dry", SIXTY)], SIXTY + 1)


class HandedIn(unittest.TestCase):
    def test_what_is_handed_in_stays(self):
        bank = list(BANK)
        length(bank)
        ground_of(bank)
        for places in ((), (0,), (3, 7), (2, 8), (0, 0), (12, 12)):
            for ask in (between, cut_out, rest):
                ask(bank, *places)
                self.assertEqual(bank, BANK)
        for ask in (between, cut_out, rest):
            with self.assertRaises(OffBank):
                ask(bank, 0, 13)
            self.assertEqual(bank, BANK)

    def test_what_is_told_is_the_askers_own(self):
        for bank in ([], [("dry", 4)], list(BANK)):
            before = list(bank)
            for ask in (cut_out, rest):
                for places in ((), (0, 0), (length(bank), None), (0, length(bank))):
                    told = ask(bank, *places)
                    kept = list(told)
                    self.assertIsNot(told, bank)
                    told.append(("damp", 0))
                    told[0] = None
                    self.assertEqual(bank, before)
                    self.assertEqual(ask(bank, *places), kept)
                    self.assertEqual(ask(bank, *places), ask(before, *places))

    def test_what_was_told_does_not_follow_the_bank(self):
        bank = list(BANK)
        whole, left = cut_out(bank), rest(bank, 0, 0)
        bank[0] = ("dry", 99)
        bank.append(("wet", 1))
        self.assertEqual(whole, BANK)
        self.assertEqual(left, BANK)


if __name__ == "__main__":
    unittest.main()
