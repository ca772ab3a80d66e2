"""Texts: point 21."""

import random
import unittest

from farcords.cords import cords
from farcords.errors import NoRow, NoSheet, NoText
from farcords.leavings import left
from farcords.texts import read_row, read_sheet, show_cords, show_left, show_row, show_sheet
from tests.bending import ANY_THINGS
from tests.refusing import RefusingTest
from tests.sheets_made import (
    BENT, MIXED_PIECES, NAMED, SPHERE, TORUS, TWO_PIECES, chance_row, chance_sheets, sheets_of_two, ties_of,
)

SIXTY = "1" + "0" * 59
SIXTY_ONE = "1" + "0" * 60

# What is no number so written.
NO_NUMBERS = [
    "", " ", "-", "--1", "+1", "01", "00", "-0", "-01", "007", "1.0", "1e3", "0x1", "1_0", "a", "x", "none", "one", "1a",
    "a1", "1-", "1-1", "- 1", "1,", "1/2", "/", SIXTY_ONE, "-" + SIXTY_ONE, "9" * 61, "0" * 60, "True", "None", "~", "(1)",
]


class ShowTest(unittest.TestCase):
    def test_rows(self):
        self.assertEqual(show_row([1, 1, 2]), "1 1 2")
        self.assertEqual(show_row([0, 0, 0]), "0 0 0")
        self.assertEqual(show_row([10 ** 59, 10 ** 60, 10 ** 60 - 1]), SIXTY + " " + SIXTY_ONE + " " + "9" * 60)

    def test_sheets(self):
        self.assertEqual(show_sheet(SPHERE), "1 2 3 / -3 -2 -1")
        self.assertEqual(show_sheet(MIXED_PIECES), "1 2 3 / 4 4 5 / 5 6 6 / -1 -2 -3")

    def test_cords(self):
        self.assertEqual(show_cords([([2, 3, 5], 2)]), "2 x 2 3 5")
        self.assertEqual(show_cords([([0, 1, 1], 1), ([1, 0, 1], 10)]), "1 x 0 1 1, 10 x 1 0 1")
        self.assertEqual(show_cords([]), "none")

    def test_left(self):
        self.assertEqual(show_left([(1, 0, 2), (1, 2, 1)]), "2 of 1 0, 1 of 1 2")
        self.assertEqual(show_left([(0, 0, 10 ** 59)]), SIXTY + " of 0 0")
        self.assertEqual(show_left([]), "")

    def test_any_list_of_such_tuples_in_its_order(self):
        self.assertEqual(show_cords([([9], 3), ([1, 2, 3, 4], 1), ([9], 3)]), "3 x 9, 1 x 1 2 3 4, 3 x 9")
        self.assertEqual(show_cords([([7] * 20, 10 ** 61)]), SIXTY_ONE + "0 x " + " ".join("7" * 20))
        self.assertEqual(show_cords([([0, 0], 0)]), "0 x 0 0")
        self.assertEqual(show_left([(5, 0, 1), (1, 9, 4), (5, 0, 1)]), "1 of 5 0, 4 of 1 9, 1 of 5 0")
        self.assertEqual(show_left([(12, 100, 0)]), "0 of 12 100")

    def test_numbers_of_any_many_figures(self):
        # Python itself shows none of more than some thousands of figures.
        for many in (60, 61, 119, 120, 121, 180, 4299, 4300, 4301, 9000):
            self.assertEqual(show_row([10 ** many - 1, 10 ** many, 7 * 10 ** many + 30]),
                             "9" * many + " 1" + "0" * many + " 7" + "0" * (many - 2) + "30")
        chance = random.Random(301)
        for figures in (1, 5, 59, 60, 61, 100, 300):
            for time in range(20):
                number = chance.randrange(10 ** figures)
                self.assertEqual(show_row([number]), str(number))
                self.assertEqual(show_sheet([(number, -number)]), f"{number} {-number}")

    def test_numbers_below_nought(self):
        self.assertEqual(show_sheet([(-10 ** 5000 - 7,)]), "-1" + "0" * 4999 + "7")
        self.assertEqual(show_sheet([(-1, -10, -300), (-10 ** 60, 0, 1)]), "-1 -10 -300 / -" + SIXTY_ONE + " 0 1")

    def test_what_is_told_of_rows(self):
        row = [4, 6, 10]
        self.assertEqual(show_cords(cords(TORUS, row)), "2 x 2 3 5")
        self.assertEqual(show_left(left(TORUS, row)), "1 of 0 0, 1 of 1 2")
        self.assertEqual(show_cords(cords(TORUS, [0, 0, 0])), "none")


class ReadSheetTest(RefusingTest):
    def test_texts_lead_back(self):
        for sheet in NAMED + sheets_of_two() + chance_sheets(302, 10):
            text = show_sheet(sheet)
            self.assertEqual(repr(read_sheet(text)), repr(sheet))
            self.assertEqual(show_sheet(read_sheet(text)), text)

    def test_no_numbers(self):
        for text in NO_NUMBERS:
            self.refused(NoText, read_sheet, text)
            self.refused(NoText, read_sheet, f"1 2 3 / -1 -2 {text}")
            self.refused(NoText, read_sheet, f"{text} 2 3 / 1 2 3")
            self.refused(NoText, read_sheet, f"1 2 3 / {text} / 1 2 3")

    def test_blanks_and_strokes(self):
        for text in (" 1 2 3 / 1 2 3", "1 2 3 / 1 2 3 ", "1  2 3 / 1 2 3", "1 2 3/ 1 2 3", "1 2 3 /1 2 3", "1 2 3  / 1 2 3",
                     "1 2 3 /  1 2 3", "1 2 3 / / 1 2 3", "1 2 3 /", "/ 1 2 3", " / ", "1 2 3 / ", " / 1 2 3", "1 2 3 | 1 2 3",
                     "1 2 3 // 1 2 3", "1 2 3\n1 2 3", "1\t2 3 / 1 2 3", "1 2 3 / 1 2 3\n", "1,2,3 / 1,2,3"):
            self.refused(NoText, read_sheet, text)

    def test_so_written_but_no_sheet(self):
        for text in ("1", "0", "-5", "1 2 3", "1 2 3 / 1 2", "1 2 3 / 1 2 3 3", "1 2 3 / 1 2 4", "1 1 2 2 3 3", "1 / 2 / 3",
                     "1 2 3 / 1 1 2", "0 1 2 / 0 1 2", SIXTY, "-" + SIXTY, "1 2 3 / 1 2 " + "9" * 60,
                     "1 2 3 / 1 2 3 / 4 4 5", " / ".join(["1 1 1"] * 14),
                     show_sheet([(tie, tie + 1, tie + 2) for tie in range(1, 22, 3)] * 2)):
            self.refused(NoSheet, read_sheet, text)

    def test_not_so_written_goes_first(self):
        self.refused(NoText, read_sheet, "1 2 3 / 1 2 04")
        self.refused(NoText, read_sheet, "1 / 1 2 / x")

    def test_the_most_triangles(self):
        twelve = [(tie, tie + 1, tie + 2) for tie in range(1, 19, 3)] * 2
        self.assertEqual(read_sheet(show_sheet(twelve)), twelve)

    def test_no_text(self):
        for thing in ANY_THINGS:
            if not isinstance(thing, str):
                self.refused(NoText, read_sheet, thing)

    def test_all_signs(self):
        for sign in [chr(code) for code in range(32, 127) if chr(code) != "%"]:
            self.refused(NoSheet if sign in "0123456789" else NoText, read_sheet, sign)
            if sign not in "0123456789 ":
                self.refused(NoText, read_sheet, f"1 2 3 / 1 2 {sign}3" if sign != "-" else "1 2 3 / 1 2 3-")
        self.assertEqual(read_sheet("1 2 3 / 1 2 -3"), [(1, 2, 3), (1, 2, -3)])


class ReadRowTest(RefusingTest):
    def test_texts_lead_back(self):
        chance = random.Random(303)
        for sheet in NAMED + chance_sheets(304, 4):
            for row in ([0] * ties_of(sheet), chance_row(chance, sheet, 30), chance_row(chance, sheet, 10 ** 60 - 2)):
                text = show_row(row)
                self.assertEqual(repr(read_row(sheet, text)), repr(row))
                self.assertEqual(show_row(read_row(sheet, text)), text)

    def test_sixty_figures_and_sixty_one(self):
        self.assertEqual(read_row(SPHERE, f"{SIXTY} {SIXTY} 0"), [10 ** 59, 10 ** 59, 0])
        self.assertEqual(read_row(SPHERE, f"{'9' * 60} {'9' * 60} 0"), [10 ** 60 - 1, 10 ** 60 - 1, 0])
        self.refused(NoText, read_row, SPHERE, f"{SIXTY_ONE} {SIXTY_ONE} 0")
        self.refused(NoText, read_row, SPHERE, f"{'0' + SIXTY} {SIXTY} 0")

    def test_no_numbers(self):
        for text in NO_NUMBERS:
            self.refused(NoText, read_row, SPHERE, text)
            self.refused(NoText, read_row, SPHERE, f"1 1 {text}")
            self.refused(NoText, read_row, SPHERE, f"{text} 1 2")
            self.refused(NoText, read_row, SPHERE, f"1 {text} 1")

    def test_blanks(self):
        for text in (" 1 1 2", "1 1 2 ", "1  1 2", "1 1\n2", "1\t1 2", "1,1,2", "1 1 2\n", "1 1 2 / 1 1 2", "[1, 1, 2]"):
            self.refused(NoText, read_row, SPHERE, text)

    def test_so_written_but_no_row(self):
        for text in ("1", "1 1", "1 1 2 0", "1 1 1", "1 1 4", "-1 -1 -2", "1 -1 2", "0", "-" + SIXTY, f"{SIXTY} 0 0",
                     "0 0 0 0 0 0"):
            self.refused(NoRow, read_row, SPHERE, text)
        self.refused(NoRow, read_row, TWO_PIECES, "1 1 2")
        self.assertEqual(read_row(TWO_PIECES, "1 1 2 0 0 0"), [1, 1, 2, 0, 0, 0])
        self.assertEqual(read_row(BENT, "1 2 1"), [1, 2, 1])
        self.refused(NoRow, read_row, BENT, "1 3 1")

    def test_not_so_written_goes_first(self):
        self.refused(NoText, read_row, SPHERE, "1 1 1 01")

    def test_no_text(self):
        for thing in ANY_THINGS:
            if not isinstance(thing, str):
                self.refused(NoText, read_row, SPHERE, thing)

    def test_long_texts(self):
        sheet = [(tie, tie + 1, tie + 2) for tie in range(1, 19, 3)] * 2
        text = " ".join(["8" * 60] * 18)
        self.assertEqual(read_row(sheet, text), [int("8" * 60)] * 18)
        self.refused(NoRow, read_row, sheet, " ".join(["8" * 60] * 21))
        self.refused(NoText, read_row, sheet, "8" * 1320)
        self.refused(NoRow, read_row, sheet, " ".join("8" * 660))


if __name__ == "__main__":
    unittest.main()
