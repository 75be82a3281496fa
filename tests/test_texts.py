"""[12], [13]: banks written and read, NoText, and shares written."""

import unittest

from bankshare.banks import rest, tidy
from bankshare.deals import deal
from bankshare.errors import BankError, NoText
from bankshare.texts import read, shown, shown_shares
from samples import SIXTY, EqualToAll, mixed_banks, small_banks

NO_PARTS = [
    "", " ", "dry", "wet", "dry ", "wet ", "3", " 3", "3 dry", "dry3", "dry-3",
    "dry +3", "dry -3", "dry -0", "dry +0", "dry 3-", "dry --3",
    "dry 00", "dry 03", "wet 007", "dry 0" + "1" * 59, "wet " + "0" * 60,
    "dry 1" + "0" * 60, "wet " + "9" * 61, "dry " + "1" * 200, "dry " + "7" * 5000,
    " dry 3", "dry 3 ", "dry  3", " dry  3 ", "dry 3 4", "dry 3 wet 4", "dry\t3", "dry\n3", "dry 3\n", "dry 3\t",
    "\ndry 3", "dry\u00a03", "dry 3\u00a0", "dry 3\r",
    "Dry 3", "DRY 3", "Wet 3", "damp 3", "dr 3", "dryy 3", "drywet 3", "w 3", "d 3", " 3", "\uff44ry 3",
    "dry 3.0", "dry 3.", "dry .3", "dry 1e3", "dry 1_000", "dry 1,000", "dry 0x1", "dry 0b1", "dry a", "dry x3",
    "dry None", "dry True", "dry 3;", "dry: 3", "'dry' 3", "(dry 3)", "dry 3/1",
    "dry \u0663", "dry \u0967", "dry \uff13", "dry 1\u0662", "dry \u00b2", "dry 1\u00b2", "dry \u2460", "dry \u2162",
    "dry \U0001d7d1", "dry \u4e09", "dry \u00bd",
    "dry 3,wet 4", "dry 3,", "dry 3,,", ",", ",dry 3", "dry 3;wet 4", "dry 3\uff0c wet 4",
]
NO_TEXTS = [
    None, 0, 1, -1, SIXTY, True, False, 1.5, float("nan"), b"", b"dry 3", bytearray(b"dry 3"), [], ["dry 3"],
    [("dry", 3)], (), ("dry 3",), {}, {"dry 3": 1}, {"dry 3"}, object(), str, EqualToAll(),
]


class Written(unittest.TestCase):
    def test_told_by_hand(self):
        self.assertEqual(shown([("dry", 3), ("wet", 12), ("dry", 1)]), "dry 3, wet 12, dry 1")
        self.assertEqual(shown([("wet", 10)]), "wet 10")
        self.assertEqual(shown([]), "")

    def test_longs_of_sixty_figures_and_more(self):
        self.assertEqual(shown([("dry", SIXTY)]), "dry " + "9" * 60)
        self.assertEqual(shown(tidy([("wet", SIXTY), ("wet", 1)])), "wet 1" + "0" * 60)
        self.assertEqual(shown(tidy([("wet", SIXTY)] * 300)), "wet 2" + "9" * 59 + "700")

    def test_kind(self):
        self.assertIs(type(shown([])), str)
        self.assertIs(type(shown([("dry", 3)])), str)


class ReadAgain(unittest.TestCase):
    def test_told_by_hand(self):
        self.assertEqual(read("dry 3, wet 12, dry 1"), [("dry", 3), ("wet", 12), ("dry", 1)])
        self.assertEqual(read("wet 1"), [("wet", 1)])

    def test_the_text_without_signs(self):
        self.assertEqual(read(""), [])

    def test_every_bank_written_is_read_to_the_same(self):
        for bank in small_banks() + mixed_banks(2, 20, 30):
            self.assertEqual(read(shown(bank)), bank)

    def test_longs_of_one_to_sixty_figures(self):
        for figures in range(1, 61):
            for long in (10 ** (figures - 1), 10 ** figures - 1, 1234567890 ** 7 % 10 ** figures or 1):
                bank = [("dry", 1), ("wet", long)]
                self.assertEqual(read(shown(bank)), bank)

    def test_every_figure(self):
        self.assertEqual(read("dry 1234567890, wet 9876543210"), [("dry", 1234567890), ("wet", 9876543210)])
        for figure in range(1, 10):
            self.assertEqual(read(f"wet {figure}"), [("wet", figure)])

    def test_three_hundred_stretches(self):
        bank = [("wet", SIXTY - k) if k % 2 == 0 else ("dry", k) for k in range(300)]
        self.assertEqual(read(shown(bank)), bank)

    def test_longs_of_0(self):
        self.assertEqual(read("dry 0"), [])
        self.assertEqual(read("dry 0, wet 0"), [])
        self.assertEqual(read("wet 0, dry 3, wet 0"), [("dry", 3)])
        self.assertEqual(read("dry 3, wet 0, dry 4"), [("dry", 7)])

    def test_neighbours_of_the_same_ground(self):
        self.assertEqual(read("dry 3, dry 4"), [("dry", 7)])
        self.assertEqual(read("wet 1, wet 2, wet 3, dry 1"), [("wet", 6), ("dry", 1)])
        self.assertEqual(read(f"dry {SIXTY}, dry 1"), [("dry", SIXTY + 1)])

    def test_a_text_of_twenty_thousand_signs(self):
        self.assertEqual(read("dry 1, " * 2856 + "dry 1"), [("dry", 2857)])
        self.assertEqual(read("dry 2, wet 0, " * 1428 + "wet 3"), [("dry", 2856), ("wet", 3)])

    def test_what_is_told_is_the_askers_own(self):
        for text in ("", "dry 0", "dry 3, wet 4"):
            kept = list(read(text))
            told = read(text)
            told.append(None)
            told[0] = None
            self.assertEqual(read(text), kept)

    def test_kinds(self):
        bank = read("dry 3, wet 4")
        self.assertIs(type(bank), list)
        for stretch in bank:
            self.assertIs(type(stretch), tuple)
            self.assertEqual([type(thing) for thing in stretch], [str, int])


class Refused(unittest.TestCase):
    def refused(self, text, place):
        with self.assertRaises(BankError) as caught:
            read(text)
        self.assertIs(type(caught.exception), NoText, repr(text))
        self.assertEqual(caught.exception.place, place, repr(text))

    def test_parts_that_are_none_at_each_place(self):
        for part in NO_PARTS:
            with self.subTest(repr(part)):
                if part != "":
                    self.refused(part, 0)
                self.refused(part + ", wet 4", 0)
                self.refused("dry 3, " + part + ", wet 4", 1)
                self.refused("dry 0, dry 3, " + part + ", wet 4", 2)
                self.refused("dry 3, wet 4, " + part, 2)

    def test_the_first_that_is_none_is_the_one_refused(self):
        self.refused("dry 3, damp 4, wet x", 1)
        self.refused("dry, damp 4, wet x", 0)
        self.refused(", , ", 0)
        self.refused("dry 3, wet 03, , dry", 1)

    def test_blanks_and_commas(self):
        self.refused("dry 3,wet 4", 0)
        self.refused("dry 3, wet 4,dry 5", 1)
        self.refused("dry 3,  wet 4", 1)
        self.refused("dry 3 , wet 4", 0)
        self.refused("dry 3,, wet 4", 0)
        self.refused("dry 3, , wet 4", 1)
        self.refused("dry 3,", 0)
        self.refused("dry 3, ", 1)
        self.refused("dry 3, wet 4,", 1)
        self.refused("dry 3, wet 4, ", 2)
        self.refused(", dry 3", 0)
        self.refused(" ", 0)
        self.refused(", ", 0)
        self.refused(",", 0)
        self.refused("dry 3\n", 0)
        self.refused("dry 3,\nwet 4", 0)

    def test_sixty_figures_are_read_and_sixty_one_are_not(self):
        self.assertEqual(read("dry " + "1" * 60), [("dry", int("1" * 60))])
        self.refused("dry " + "1" * 61, 0)
        self.refused("dry 1, wet 2, dry 1" + "0" * 60, 2)
        self.refused(shown(tidy([("dry", SIXTY), ("dry", 1)])), 0)

    def test_noughts_ahead(self):
        self.refused("dry 00", 0)
        self.refused("dry 1, wet 01", 1)
        self.assertEqual(read("dry 10, wet 100"), [("dry", 10), ("wet", 100)])

    def test_the_last_part_of_a_long_text(self):
        self.refused("dry 1, " * 2800 + "dry", 2800)

    def test_what_is_no_text(self):
        for wrong in NO_TEXTS:
            with self.subTest(repr(wrong)):
                self.refused(wrong, 0)

    def test_what_is_no_text_stays(self):
        wrong = ["dry 3"]
        self.refused(wrong, 0)
        self.assertEqual(wrong, ["dry 3"])


class SharesWritten(unittest.TestCase):
    def test_told_by_hand(self):
        self.assertEqual(shown_shares([[(0, 3), (7, 9)], [(3, 7)]]), "0-3 7-9 / 3-7")

    def test_one_share(self):
        self.assertEqual(shown_shares([[(0, 8)]]), "0-8")
        self.assertEqual(shown_shares([[(0, 2), (4, 6), (10, 12)]]), "0-2 4-6 10-12")

    def test_shares_without_pieces(self):
        self.assertEqual(shown_shares([[]]), "none")
        self.assertEqual(shown_shares([[], []]), "none / none")
        self.assertEqual(shown_shares([[(0, 1)], [], [(2, 3)]]), "0-1 / none / 2-3")
        self.assertEqual(shown_shares([[], [(0, 8)]]), "none / 0-8")

    def test_many(self):
        shares = [[(k, k + 1)] for k in range(300)]
        self.assertEqual(shown_shares(shares), " / ".join(f"{k}-{k + 1}" for k in range(300)))
        self.assertEqual(shown_shares([shares[k][0:1] + [(400, 401)] for k in range(2)]), "0-1 400-401 / 1-2 400-401")

    def test_dealt_out_by_the_program(self):
        bank = [("dry", 4), ("wet", 4)]
        self.assertEqual(shown_shares(deal(bank, 4)), "3-5 / 2-3 5-6 / 1-2 6-7 / 0-1 7-8")
        self.assertEqual(shown_shares(deal([], 4)), "none / none / none / none")

    def test_shares_that_deal_out_no_bank(self):
        self.assertEqual(shown_shares([[(5, 6)], [(5, 6)]]), "5-6 / 5-6")
        self.assertEqual(shown_shares([[(7, 9)], [(0, 3)]]), "7-9 / 0-3")

    def test_great_places(self):
        self.assertEqual(shown_shares([[(0, SIXTY), (SIXTY + 1, 10 ** 69)]]), f"0-{'9' * 60} 1{'0' * 60}-1{'0' * 69}")


class HandedIn(unittest.TestCase):
    def test_what_is_handed_in_stays(self):
        bank = rest([("dry", 3), ("wet", 4), ("dry", 5)], 1, 2)
        before = list(bank)
        shown(bank)
        self.assertEqual(bank, before)
        shares = [[(0, 1)], [], [(2, 3), (5, 6)]]
        shown_shares(shares)
        self.assertEqual(shares, [[(0, 1)], [], [(2, 3), (5, 6)]])


if __name__ == "__main__":
    unittest.main()
