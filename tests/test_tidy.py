"""[3], [4]: a list of tuples made tidy, and its refusals."""

import itertools
import unittest

from bankshare.banks import tidy
from bankshare.errors import BankError, NoGround, NoLength
from samples import SIXTY, EqualToAll, bank_of, letters, small_banks

WRONG_GROUNDS = [
    "", "d", "w", "Dry", "DRY", "Wet", "WET", " dry", "dry ", "wet ", " wet", "dry\n", "dryy", "wett", "drywet",
    "dry wet", "dry, wet", "damp", "0", "1", "d\u200bry", "\uff44ry",
    None, 0, 1, -1, SIXTY, True, False, 1.5, b"dry", b"wet",
    [], ["dry"], ["wet"], (), ("dry",), ("dry", "wet"), ("dry", 1), {}, {"dry": 1}, {"dry"}, object(), str,
]
WRONG_LONGS = [
    -1, -2, -SIXTY, True, False, None, "", "0", "1", "12", "dry", "-1",
    [], [1], (), (1,), {}, {1: 1}, {1}, 0.0, 1.0, 1.5, float("nan"), float("inf"), 1j, b"1", object(), int,
]


class Tidied(unittest.TestCase):
    def test_nothing(self):
        self.assertEqual(tidy([]), [])

    def test_a_bank_stays_what_it_is(self):
        for bank in small_banks():
            self.assertEqual(tidy(bank), bank)

    def test_longs_of_0_are_left_out(self):
        self.assertEqual(tidy([("dry", 0)]), [])
        self.assertEqual(tidy([("wet", 0)]), [])
        self.assertEqual(tidy([("dry", 0), ("wet", 0), ("dry", 0)]), [])
        self.assertEqual(tidy([("wet", 0), ("dry", 3), ("wet", 0)]), [("dry", 3)])

    def test_neighbours_of_one_ground_are_put_together(self):
        self.assertEqual(tidy([("dry", 1), ("dry", 2)]), [("dry", 3)])
        self.assertEqual(tidy([("wet", 1), ("wet", 2), ("wet", 4)]), [("wet", 7)])
        self.assertEqual(tidy([("dry", 1), ("wet", 2), ("wet", 3), ("dry", 4)]), [("dry", 1), ("wet", 5), ("dry", 4)])

    def test_neighbours_with_only_a_long_of_0_between(self):
        self.assertEqual(tidy([("dry", 1), ("wet", 0), ("dry", 2)]), [("dry", 3)])
        self.assertEqual(tidy([("wet", 1), ("dry", 0), ("wet", 0), ("dry", 0), ("wet", 2)]), [("wet", 3)])
        self.assertEqual(tidy([("wet", 1), ("wet", 0), ("wet", 2)]), [("wet", 3)])

    def test_one_ground_that_comes_again_later_is_not_put_together(self):
        self.assertEqual(tidy([("dry", 1), ("wet", 1), ("dry", 2)]), [("dry", 1), ("wet", 1), ("dry", 2)])

    def test_every_short_list(self):
        one = [(ground, long) for ground in ("dry", "wet") for long in (0, 1, 2)]
        for count in range(5):
            for rows in itertools.product(one, repeat=count):
                self.assertEqual(tidy(list(rows)), bank_of(letters(rows)), rows)

    def test_longs_of_sixty_figures(self):
        self.assertEqual(tidy([("dry", SIXTY)]), [("dry", SIXTY)])
        self.assertEqual(tidy([("wet", SIXTY), ("wet", SIXTY)]), [("wet", 2 * SIXTY)])
        self.assertEqual(tidy([("wet", SIXTY)] * 300), [("wet", 300 * SIXTY)])

    def test_nothing_is_refused_for_its_size(self):
        self.assertEqual(tidy([("dry", 10 ** 80)]), [("dry", 10 ** 80)])
        self.assertEqual(tidy([("dry", 1), ("wet", 1)] * 200), [("dry", 1), ("wet", 1)] * 200)

    def test_kinds_of_what_is_told(self):
        bank = tidy([("dry", 1), ("dry", 2), ("wet", 3)])
        self.assertIs(type(bank), list)
        for stretch in bank:
            self.assertIs(type(stretch), tuple)
            self.assertIs(type(stretch[0]), str)
            self.assertIs(type(stretch[1]), int)


class Refused(unittest.TestCase):
    def refused(self, error, place, rows):
        with self.assertRaises(BankError) as caught:
            tidy(rows)
        self.assertIs(type(caught.exception), error, rows)
        self.assertEqual(caught.exception.place, place, rows)

    def test_grounds_of_any_kind(self):
        for wrong in WRONG_GROUNDS + [EqualToAll()]:
            with self.subTest(repr(wrong)):
                self.refused(NoGround, 0, [(wrong, 1)])
                self.refused(NoGround, 2, [("dry", 1), ("wet", 0), (wrong, 1), ("dry", 1)])

    def test_longs_of_any_kind(self):
        for wrong in WRONG_LONGS + [EqualToAll()]:
            with self.subTest(repr(wrong)):
                self.refused(NoLength, 0, [("wet", wrong)])
                self.refused(NoLength, 2, [("dry", 1), ("wet", 0), ("dry", wrong), ("dry", 1)])

    def test_a_wrong_ground_is_refused_with_a_long_of_0_too(self):
        self.refused(NoGround, 1, [("dry", 1), ("damp", 0)])

    def test_no_ground_goes_ahead_in_one_tuple(self):
        for ground in WRONG_GROUNDS:
            for long in WRONG_LONGS:
                self.refused(NoGround, 1, [("dry", 1), (ground, long)])

    def test_a_tuple_the_wrong_way_round(self):
        self.refused(NoGround, 0, [(1, "dry")])

    def test_the_first_wrong_tuple_is_the_one_refused(self):
        self.refused(NoLength, 0, [("dry", -1), ("damp", 1)])
        self.refused(NoGround, 0, [("damp", 1), ("dry", -1)])
        self.refused(NoLength, 1, [("dry", 1), ("dry", None), ("wet", -1), (None, None)])
        self.refused(NoGround, 1, [("dry", 1), ("damp", 1), ("wet", -1), (None, None)])

    def test_the_place_counts_every_tuple(self):
        rows = [("dry", 0), ("dry", 1), ("dry", 1), ("wet", 0), ("dry", 1)]
        for place in range(len(rows) + 1):
            self.refused(NoLength, place, rows[:place] + [("wet", -1)] + rows[place:])
            self.refused(NoGround, place, rows[:place] + [("damp", 1)] + rows[place:])

    def test_the_last_of_three_hundred(self):
        self.refused(NoLength, 299, [("dry", 1)] * 299 + [("dry", True)])


class HandedIn(unittest.TestCase):
    def test_what_is_handed_in_stays(self):
        rows = [("dry", 1), ("dry", 2), ("wet", 0), ("dry", 3), ("wet", 4)]
        before = list(rows)
        tidy(rows)
        self.assertEqual(rows, before)

    def test_what_is_refused_stays(self):
        rows = [("dry", 1), ("dry", 2), ("wet", [1])]
        with self.assertRaises(NoLength):
            tidy(rows)
        self.assertEqual(rows, [("dry", 1), ("dry", 2), ("wet", [1])])

    def test_what_is_told_is_new(self):
        for bank in ([], [("dry", 1)], [("dry", 1), ("wet", 2)]):
            before = list(bank)
            told = tidy(bank)
            self.assertIsNot(told, bank)
            told.append(("damp", 0))
            self.assertEqual(bank, before)
            self.assertEqual(tidy(bank), before)

    def test_what_is_told_does_not_follow_what_was_handed_in(self):
        rows = [("dry", 1), ("wet", 2)]
        told = tidy(rows)
        rows.clear()
        self.assertEqual(told, [("dry", 1), ("wet", 2)])


if __name__ == "__main__":
    unittest.main()
