"""[11]: shares told by others looked at."""

import itertools
import unittest

from bankshare.banks import between, tidy
from bankshare.deals import deal, fair
from samples import SIXTY, bank_of, ground_in, letters, mixed_banks

BANK = [("dry", 4), ("wet", 4)]


def slowly_fair(bank, shares):
    """Foot by foot: each foot in just one piece, and the same letters for each heir."""
    text = letters(bank)
    heirs = [[] for _ in text]
    for heir, share in enumerate(shares):
        ahead = -1
        for start, end in share:
            if not (0 <= start < end <= len(text)) or start <= ahead:
                return False
            ahead = end
            for foot in range(start, end):
                heirs[foot].append(heir)
    if any(len(owners) != 1 for owners in heirs):
        return False
    grounds = [ground_in("".join(text[k] for k in range(len(text)) if heirs[k] == [heir])) for heir in range(len(shares))]
    return all(ground == grounds[0] for ground in grounds)


class Fair(unittest.TestCase):
    def fair(self, bank, shares):
        self.assertIs(fair(bank, shares), True, (bank, shares))

    def test_dealt_out_by_the_program(self):
        for heirs in (1, 2, 4, 8, 16):
            for bank in mixed_banks(heirs, 30, 6):
                self.fair(bank, deal(bank, heirs))

    def test_the_heirs_in_whatever_order(self):
        for shares in itertools.permutations(deal(BANK, 4)):
            self.fair(BANK, list(shares))

    def test_one_heir(self):
        self.fair(BANK, [[(0, 8)]])

    def test_counts_that_are_not_dealt_out_by_the_program(self):
        self.fair([("dry", 6), ("wet", 6)], [[(4, 8)], [(0, 2), (10, 12)], [(2, 4), (8, 10)]])
        self.fair([("dry", 5)], [[(k, k + 1)] for k in range(5)])
        self.fair([("wet", 300)], [[(k, k + 1)] for k in range(300)])

    def test_a_dealing_with_more_cuts_than_are_needed(self):
        self.fair(BANK, [[(0, 1), (2, 3), (4, 5), (6, 7)], [(1, 2), (3, 4), (5, 6), (7, 8)]])

    def test_a_piece_may_touch_one_of_another_heir(self):
        self.fair([("dry", 2), ("wet", 4), ("dry", 2)], [[(0, 4)], [(4, 8)]])

    def test_the_bank_without_ground(self):
        for count in (1, 2, 3, 16):
            self.fair([], [[] for _ in range(count)])

    def test_longs_of_sixty_figures(self):
        self.fair([("dry", SIXTY), ("wet", 2), ("dry", SIXTY)], [[(0, SIXTY + 1)], [(SIXTY + 1, 2 * SIXTY + 2)]])
        bank = tidy([("dry", SIXTY)] * 3 + [("wet", SIXTY)] * 3)
        self.fair(bank, [[(2 * SIXTY, 4 * SIXTY)], [(k * SIXTY, k * SIXTY + SIXTY) for k in (0, 5)],
                         [(k * SIXTY, k * SIXTY + SIXTY) for k in (1, 4)]])

    def test_many_pieces(self):
        bank = [("dry", 9000), ("wet", 9000)]
        shares = [[(heir + 300 * k, heir + 300 * k + 1) for k in range(60)] for heir in range(300)]
        self.fair(bank, shares)
        shares[299][59] = (17999, 18001)
        self.assertIs(fair(bank, shares), False)


class NotFair(unittest.TestCase):
    def unfair(self, bank, shares):
        self.assertIs(fair(bank, shares), False, (bank, shares))

    def test_a_piece_turned_about(self):
        self.unfair(BANK, [[(6, 2)], [(0, 2), (6, 8)]])
        self.unfair(BANK, [[(2, 6)], [(2, 0), (8, 6)]])
        self.unfair(BANK, [[(8, 0)]])

    def test_an_empty_piece(self):
        self.unfair(BANK, [[(2, 6)], [(0, 2), (4, 4), (6, 8)]])
        self.unfair(BANK, [[(2, 6)], [(0, 2), (6, 8), (9, 9)]])
        self.unfair(BANK, [[(0, 0), (2, 6)], [(0, 2), (6, 8)]])
        self.unfair(BANK, [[(2, 6), (8, 8)], [(0, 2), (6, 8)]])
        self.unfair(BANK, [[(2, 6), (7, 7)], [(0, 2), (6, 8)]])
        self.unfair([], [[(0, 0)]])
        self.unfair([], [[(0, 0)], [(0, 0)]])

    def test_a_piece_off_the_bank(self):
        self.unfair(BANK, [[(2, 6)], [(0, 2), (6, 9)]])
        self.unfair(BANK, [[(2, 6)], [(-1, 2), (6, 8)]])
        self.unfair(BANK, [[(0, 9)]])
        self.unfair(BANK, [[(-1, 8)]])
        self.unfair(BANK, [[(0, 8), (9, 10)]])
        self.unfair(BANK, [[(-2, -1), (0, 8)]])
        self.unfair(BANK, [[(2, 6), (9, 10)], [(0, 2), (6, 8), (11, 12)]])
        self.unfair([], [[(0, 1)]])
        self.unfair([], [[(-1, 1)]])

    def test_touching_pieces_of_one_share(self):
        self.unfair(BANK, [[(2, 4), (4, 6)], [(0, 2), (6, 8)]])
        self.unfair(BANK, [[(2, 6)], [(0, 1), (1, 2), (6, 8)]])
        self.unfair(BANK, [[(0, 4), (4, 8)]])

    def test_pieces_out_of_order(self):
        self.unfair(BANK, [[(2, 6)], [(6, 8), (0, 2)]])
        self.unfair(BANK, [[(0, 1), (4, 5), (2, 3), (6, 7)], [(1, 2), (3, 4), (5, 6), (7, 8)]])

    def test_ground_given_twice(self):
        self.unfair(BANK, [[(2, 6)], [(0, 3), (6, 8)]])
        self.unfair(BANK, [[(0, 8)], [(0, 8)]])
        self.unfair(BANK, [[(2, 6)], [(0, 2), (6, 8)], [(2, 6)]])
        self.unfair([("dry", 2)], [[(0, 1)], [(1, 2)], [(1, 2)]])
        self.unfair(BANK, [[(0, 8), (2, 6)]])

    def test_ground_left_out(self):
        self.unfair(BANK, [[(2, 6)]])
        self.unfair(BANK, [[(0, 2), (6, 8)]])
        self.unfair(BANK, [[(3, 5)], [(2, 3), (5, 6)], [(1, 2), (6, 7)]])
        self.unfair(BANK, [[(1, 7)]])
        self.unfair(BANK, [[(0, 7)]])
        self.unfair(BANK, [[(1, 8)]])
        self.unfair(BANK, [[]])
        self.unfair(BANK, [[], []])

    def test_unlike_sums_of_dry_ground(self):
        self.unfair([("dry", 3)], [[(0, 1)], [(1, 3)]])
        # The wet ground is halved, the dry is not.
        self.unfair([("wet", 1), ("dry", 4), ("wet", 1)], [[(0, 2)], [(2, 6)]])

    def test_unlike_sums_of_wet_ground(self):
        self.unfair([("wet", 3)], [[(0, 2)], [(2, 3)]])
        # The dry ground is halved, the wet is not.
        self.unfair([("dry", 1), ("wet", 4), ("dry", 1)], [[(0, 2)], [(2, 6)]])

    def test_unlike_sums_of_both_in_shares_of_one_length(self):
        self.unfair(BANK, [[(0, 4)], [(4, 8)]])
        self.unfair(BANK, [[(1, 5)], [(0, 1), (5, 8)]])

    def test_only_the_last_of_many_is_unlike(self):
        self.unfair([("dry", 13)], [[(k, k + 1)] for k in range(11)] + [[(11, 13)]])

    def test_a_share_without_pieces(self):
        self.unfair(BANK, [[(0, 8)], []])
        self.unfair(BANK, [[], [(0, 8)]])
        self.unfair(BANK, [[(2, 6)], [], [(0, 2), (6, 8)]])

    def test_whatever_numbers(self):
        for number in (10 ** 69, -10 ** 69, 2 ** 64, -2 ** 63):
            self.unfair(BANK, [[(0, number)]])
            self.unfair(BANK, [[(number, 8)]])
            self.unfair(BANK, [[(number, number)]])
            self.unfair(BANK, [[(number, number + 1)], [(2, 6)], [(0, 2), (6, 8)]])

    def test_off_by_one_in_longs_of_sixty_figures(self):
        bank = [("dry", SIXTY), ("wet", 2), ("dry", SIXTY)]
        self.unfair(bank, [[(0, SIXTY)], [(SIXTY, 2 * SIXTY + 2)]])
        self.unfair(bank, [[(0, SIXTY + 1)], [(SIXTY + 1, 2 * SIXTY + 1)]])
        self.unfair(bank, [[(0, SIXTY + 1)], [(SIXTY + 2, 2 * SIXTY + 2)]])


class EveryWay(unittest.TestCase):
    def test_two_shares_of_up_to_two_pieces(self):
        pieces = [(start, end) for start in range(5) for end in range(start + 1, 5)]
        pieces = pieces + [(2, 2), (3, 1), (-1, 1), (3, 5)]
        shares = [list(some) for count in range(3) for some in itertools.product(pieces, repeat=count)]
        for bank in (bank_of("ddww"), bank_of("dwwd"), bank_of("dddd")):
            found = 0
            for both in itertools.product(shares, repeat=2):
                told = fair(bank, list(both))
                self.assertIs(told, slowly_fair(bank, both), (bank, both))
                found = found + told
            self.assertGreater(found, 0)

    def test_every_way_to_give_single_feet_to_three_heirs(self):
        for bank in (bank_of("dwwddw"), bank_of("dddwww")):
            for owners in itertools.product(range(3), repeat=6):
                shares = [[], [], []]
                for owner, run in itertools.groupby(range(6), key=lambda foot: owners[foot]):
                    feet = list(run)
                    shares[owner].append((feet[0], feet[-1] + 1))
                grounds = {ground(bank, share) for share in shares}
                self.assertIs(fair(bank, shares), grounds == {(1, 1)}, (bank, shares))


def ground(bank, share):
    told = [between(bank, start, end) for start, end in share]
    return (sum(dry for dry, wet in told), sum(wet for dry, wet in told))


class HandedIn(unittest.TestCase):
    def test_what_is_handed_in_stays(self):
        for shares in (deal(BANK, 4), [[(6, 8), (0, 2)], [(2, 6)]], [[(9, 1)], []], [[], []]):
            bank = list(BANK)
            before = [list(share) for share in shares]
            fair(bank, shares)
            self.assertEqual(bank, BANK)
            self.assertEqual(shares, before)


if __name__ == "__main__":
    unittest.main()
