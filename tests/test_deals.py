"""[8], [9], [10]: a bank dealt out among heirs, the refusals, and the cuts."""

import unittest

from bankshare.banks import between, ground_of, length, tidy
from bankshare.deals import cuts, deal, fair
from bankshare.errors import BankError, NoHeirs, Uneven
from samples import SIXTY, EqualToAll, mixed_banks, slowly_dealt, small_banks, times

MOST_CUTS = {1: 0, 2: 2, 4: 6, 8: 14, 16: 30}
COUNTS = list(MOST_CUTS)
BANK = [("dry", 4), ("wet", 4)]
BANK_IN_FOUR = [[(3, 5)], [(2, 3), (5, 6)], [(1, 2), (6, 7)], [(0, 1), (7, 8)]]

NO_HEIRS = [
    0, 3, 5, 6, 7, 9, 10, 12, 15, 17, 24, 31, 32, 64, -1, -2, -4, -8, -16, 10 ** 69, -10 ** 69, 2 ** 200,
    True, False, None, "", "2", "four", b"2", 1.0, 2.0, 4.0, 0.5, float("nan"), float("inf"), 2 + 0j,
    [], [2], [1, 2, 4, 8, 16], (), (2,), {}, {2: 2}, {2}, frozenset([2]), range(2), int, object(), EqualToAll(),
]


def dealable(heirs):
    banks = [times(bank, factor) for bank in small_banks(4, 3) for factor in (1, heirs // 2, heirs) if factor > 0]
    banks = banks + mixed_banks(heirs, 60, 6)
    return [bank for bank in banks if all(total % heirs == 0 for total in ground_of(bank))]


class Dealt(unittest.TestCase):
    def test_one_heir_has_all_in_one_piece(self):
        self.assertEqual(deal(BANK, 1), [[(0, 8)]])
        self.assertEqual(deal([("wet", 3)], 1), [[(0, 3)]])
        self.assertEqual(deal([("dry", 1), ("wet", 1), ("dry", 1)], 1), [[(0, 3)]])

    def test_two_heirs(self):
        self.assertEqual(deal(BANK, 2), [[(2, 6)], [(0, 2), (6, 8)]])
        self.assertEqual(deal([("dry", 2)], 2), [[(0, 1)], [(1, 2)]])

    def test_four_heirs(self):
        self.assertEqual(deal(BANK, 4), BANK_IN_FOUR)
        self.assertEqual(deal([("wet", 4)], 4), [[(0, 1)], [(1, 2)], [(2, 3)], [(3, 4)]])

    def test_eight_and_sixteen_heirs(self):
        for heirs in (8, 16):
            self.assertEqual(deal([("wet", heirs * 3)], heirs), [[(3 * k, 3 * k + 3)] for k in range(heirs)])

    def test_heirs_left_out_are_two(self):
        for bank in [[]] + dealable(2):
            self.assertEqual(deal(bank), deal(bank, 2))
        self.assertEqual(deal(BANK, heirs=4), BANK_IN_FOUR)

    def test_the_bank_without_ground(self):
        for heirs in COUNTS:
            self.assertEqual(deal([], heirs), [[] for _ in range(heirs)])

    def test_a_piece_over_the_joint_is_told_as_two(self):
        # The rest is dry 2, wet 2, put together at its place 2; its first half goes from 1 to 3.
        self.assertEqual(deal(BANK, 4)[2], [(1, 2), (6, 7)])

    def test_pieces_that_only_touch_the_joint_stay_one(self):
        # The rest is four feet long, put together at its place 2; its halves end and begin there.
        bank = [("dry", 1), ("wet", 3), ("dry", 3), ("wet", 1)]
        self.assertEqual(deal(bank, 4), [[(3, 5)], [(2, 3), (5, 6)], [(0, 2)], [(6, 8)]])

    def test_nothing_lies_ahead_of_ground_taken_from_the_begin(self):
        bank = [("dry", 2), ("wet", 2), ("dry", 2), ("wet", 2)]
        self.assertEqual(deal(bank, 2), [[(0, 4)], [(4, 8)]])
        self.assertEqual(deal(bank, 4), [[(1, 3)], [(0, 1), (3, 4)], [(5, 7)], [(4, 5), (7, 8)]])

    def test_as_foot_by_foot(self):
        for heirs in COUNTS:
            for bank in dealable(heirs):
                self.assertEqual(deal(bank, heirs), slowly_dealt(bank, heirs), (bank, heirs))

    def test_kinds(self):
        for heirs in COUNTS:
            for bank in ([], [("dry", 16), ("wet", 32)]):
                shares = deal(bank, heirs)
                self.assertIs(type(shares), list)
                self.assertEqual(len(shares), heirs)
                for share in shares:
                    self.assertIs(type(share), list)
                    for piece in share:
                        self.assertIs(type(piece), tuple)
                        self.assertEqual([type(place) for place in piece], [int, int])


class WhatIsDealt(unittest.TestCase):
    def dealt_well(self, bank, heirs):
        shares = deal(bank, heirs)
        told = (bank, heirs)
        self.assertEqual(len(shares), heirs, told)
        dry, wet = ground_of(bank)
        for share in shares:
            grounds = [between(bank, start, end) for start, end in share]
            self.assertEqual(sum(ground[0] for ground in grounds) * heirs, dry, told)
            self.assertEqual(sum(ground[1] for ground in grounds) * heirs, wet, told)
            for ahead, piece in zip(share, share[1:]):
                self.assertLess(ahead[1], piece[0], told)
        pieces = sorted(piece for share in shares for piece in share)
        edges = [0] + [end for start, end in pieces]
        self.assertEqual([start for start, end in pieces] + [length(bank)], edges, told)
        self.assertTrue(all(start < end for start, end in pieces), told)
        self.assertLessEqual(len(cuts(bank, shares)), MOST_CUTS[heirs], told)
        self.assertIs(fair(bank, shares), True, told)

    def test_banks_of_small_longs(self):
        for heirs in COUNTS:
            for bank in dealable(heirs):
                self.dealt_well(bank, heirs)

    def test_longs_of_sixty_figures(self):
        for heirs in COUNTS:
            self.dealt_well([("dry", SIXTY // 16 * 16)], heirs)
            rows = [("dry", SIXTY - 3 ** k) if k % 2 == 0 else ("wet", SIXTY - 5 ** k) for k in range(60)]
            dry, wet = ground_of(rows)
            self.dealt_well(rows + [("dry", SIXTY // 32 * 16 - dry % 16), ("wet", 32 - wet % 16)], heirs)

    def test_all_longs_times_one_factor(self):
        factor = SIXTY // 200
        for heirs in COUNTS:
            for bank in mixed_banks(heirs, 20, 6):
                shares = [times_places(share, factor) for share in deal(bank, heirs)]
                self.assertEqual(deal(times(bank, factor), heirs), shares, bank)

    def test_longer_longs_in_banks_told_before(self):
        for heirs in COUNTS:
            self.dealt_well(tidy([("dry", SIXTY)] * 160 + [("wet", SIXTY)] * 112), heirs)

    def test_three_hundred_stretches(self):
        bank = [("dry", 16 * (1 + k % 7)) if k % 2 == 0 else ("wet", 16 * SIXTY // 999 * 16) for k in range(300)]
        for heirs in COUNTS:
            self.dealt_well(bank, heirs)


def times_places(share, factor):
    return [(start * factor, end * factor) for start, end in share]


class NoHeirsTold(unittest.TestCase):
    def refused(self, bank, heirs):
        with self.assertRaises(BankError) as caught:
            deal(bank, heirs)
        self.assertIs(type(caught.exception), NoHeirs, repr(heirs))

    def test_of_any_kind(self):
        for heirs in NO_HEIRS:
            with self.subTest(repr(heirs)):
                self.refused([("dry", 48), ("wet", 96)], heirs)
                self.refused([], heirs)

    def test_no_heirs_goes_ahead_of_uneven(self):
        for heirs in NO_HEIRS:
            with self.subTest(repr(heirs)):
                self.refused([("dry", 1)], heirs)
                self.refused([("wet", 7), ("dry", 11)], heirs)

    def test_every_small_number(self):
        for heirs in range(-40, 70):
            if heirs not in COUNTS:
                self.refused([], heirs)

    def test_what_is_handed_in_stays(self):
        bank, heirs = list(BANK), [2]
        self.refused(bank, heirs)
        self.assertEqual((bank, heirs), (BANK, [2]))


class UnevenSums(unittest.TestCase):
    def refused(self, bank, heirs, ground):
        before = list(bank)
        with self.assertRaises(BankError) as caught:
            deal(bank, heirs)
        self.assertIs(type(caught.exception), Uneven, (bank, heirs))
        self.assertEqual(caught.exception.ground, ground, (bank, heirs))
        self.assertEqual(bank, before)

    def test_dry(self):
        self.refused([("dry", 1)], 2, "dry")
        self.refused([("wet", 8), ("dry", 2)], 4, "dry")
        self.refused([("dry", 4), ("wet", 8)], 8, "dry")
        self.refused([("dry", 8), ("wet", 16)], 16, "dry")

    def test_wet(self):
        self.refused([("wet", 1)], 2, "wet")
        self.refused([("wet", 2), ("dry", 8)], 4, "wet")
        self.refused([("dry", 8), ("wet", 4)], 8, "wet")
        self.refused([("dry", 16), ("wet", 8)], 16, "wet")

    def test_both(self):
        for heirs in (2, 4, 8, 16):
            self.refused([("wet", 1), ("dry", 1)], heirs, "dry")
            self.refused([("dry", heirs + 1), ("wet", heirs - 1)], heirs, "dry")
            self.refused([("wet", SIXTY), ("dry", SIXTY)], heirs, "dry")

    def test_the_heirs_left_out(self):
        with self.assertRaises(Uneven) as caught:
            deal([("dry", 2), ("wet", 3)])
        self.assertEqual(caught.exception.ground, "wet")

    def test_just_where_a_sum_is_no_multiple(self):
        for heirs in COUNTS:
            for bank in small_banks(4, 4):
                dry, wet = ground_of(bank)
                if dry % heirs != 0 or wet % heirs != 0:
                    self.refused(bank, heirs, "dry" if dry % heirs != 0 else "wet")
                else:
                    deal(bank, heirs)


class Cuts(unittest.TestCase):
    def test_told_by_hand(self):
        self.assertEqual(cuts(BANK, deal(BANK, 1)), [])
        self.assertEqual(cuts(BANK, deal(BANK, 2)), [2, 6])
        self.assertEqual(cuts(BANK, deal(BANK, 4)), [1, 2, 3, 5, 6, 7])
        self.assertEqual(cuts([("dry", 2)], [[(0, 1)], [(1, 2)]]), [1])

    def test_the_bank_without_ground(self):
        for heirs in COUNTS:
            self.assertEqual(cuts([], deal([], heirs)), [])

    def test_shares_told_by_others(self):
        bank = [("dry", 6), ("wet", 6)]
        self.assertEqual(cuts(bank, [[(4, 8)], [(0, 2), (10, 12)], [(2, 4), (8, 10)]]), [2, 4, 8, 10])
        self.assertEqual(cuts(bank, [[], [(0, 12)], []]), [])

    def test_begins_count_and_ends_count(self):
        self.assertEqual(cuts(BANK, [[(2, 6)]]), [2, 6])
        self.assertEqual(cuts(BANK, [[(0, 3)], [(5, 8)]]), [3, 5])

    def test_rising_in_whatever_order_the_shares_stand(self):
        bank = [("dry", 300)]
        shares = [[(k * 10, k * 10 + 10)] for k in range(30)]
        wanted = [k * 10 for k in range(1, 30)]
        self.assertEqual(cuts(bank, shares), wanted)
        self.assertEqual(cuts(bank, list(reversed(shares))), wanted)

    def test_all_ends_each_once_but_for_the_bank_s(self):
        for heirs in COUNTS:
            for bank in dealable(heirs):
                shares = deal(bank, heirs)
                ends = {place for share in shares for piece in share for place in piece}
                self.assertEqual(cuts(bank, shares), sorted(ends - {0, length(bank)}), (bank, heirs))

    def test_the_most_there_may_be_are_reached_and_not_passed(self):
        for heirs in COUNTS:
            found = [len(cuts(bank, deal(bank, heirs))) for bank in dealable(heirs)]
            self.assertEqual(max(found), MOST_CUTS[heirs])

    def test_great_places(self):
        bank = [("dry", 2 * (SIXTY // 2)), ("wet", SIXTY - 1)]
        half = SIXTY // 2
        self.assertEqual(cuts(bank, deal(bank)), [half, 3 * half])

    def test_kinds(self):
        told = cuts(BANK, deal(BANK, 4))
        self.assertIs(type(told), list)
        self.assertEqual({type(place) for place in told}, {int})


class HandedInAndTold(unittest.TestCase):
    def test_what_is_handed_in_stays(self):
        bank = list(BANK)
        for heirs in (1, 2, 4):
            shares = deal(bank, heirs)
            before = [list(share) for share in shares]
            cuts(bank, shares)
            self.assertEqual(bank, BANK)
            self.assertEqual(shares, before)

    def test_what_was_told_stays_when_others_are_asked(self):
        first, first_cuts = deal(BANK, 4), cuts(BANK, BANK_IN_FOUR)
        deal(BANK, 2)
        deal([("wet", 32)], 16)
        cuts([("wet", 2)], [[(0, 1)], [(1, 2)]])
        self.assertEqual(first, BANK_IN_FOUR)
        self.assertEqual(first_cuts, [1, 2, 3, 5, 6, 7])

    def test_what_was_told_does_not_follow_the_bank(self):
        bank = list(BANK)
        shares = deal(bank, 4)
        bank.clear()
        self.assertEqual(shares, BANK_IN_FOUR)

    def test_each_list_told_is_the_askers_own(self):
        for bank in ([], list(BANK), [("wet", 16)]):
            before = list(bank)
            for heirs in (1, 2, 4):
                kept = deal(bank, heirs)
                for place in range(heirs):
                    told = deal(bank, heirs)
                    told[place].append((98, 99))
                    told[place][0] = None
                    others = [share for k, share in enumerate(told) if k != place]
                    self.assertEqual(others, [share for k, share in enumerate(kept) if k != place])
                    told.clear()
                    self.assertEqual(deal(bank, heirs), kept)
                    self.assertEqual(bank, before)

    def test_cuts_told_are_the_askers_own(self):
        for bank, shares in ((BANK, deal(BANK, 4)), (BANK, deal(BANK, 1)), ([], [[]])):
            kept = list(cuts(bank, shares))
            before = [list(share) for share in shares]
            told = cuts(bank, shares)
            told.append(None)
            self.assertEqual(cuts(bank, shares), kept)
            self.assertEqual(shares, before)


if __name__ == "__main__":
    unittest.main()
