"""The desk: points 22 and 23, and what point 3 says of it."""

import random
import unittest

from farcords.cordrows import ring, sum_of
from farcords.cords import cords
from farcords.desk import Desk
from farcords.errors import CordError, NoName, NoRow, NoSheet, NoText, NoTurn
from farcords.leavings import left
from farcords.sheets import faces, number, points
from farcords.texts import show_cords, show_left, show_row, show_sheet
from farcords.ties import row_turned, turned_tie
from tests.bending import ANY_THINGS
from tests.sheets_made import FOLDED, KLEIN, NAMED, SPHERE, TORUS, chance_row, chance_sheets, ties_of

BIG = 10 ** 59
SPHERE_TEXT = "1 2 3 / -3 -2 -1"
TORUS_TEXT = "1 2 3 / -1 -2 -3"
NAMES = ("a", "b", "abcdef", "ring")


def state(desk):
    """All that the desk tells of the names that the tests use."""
    told = {}
    for name in NAMES + ("r", "s", "q", "new", "zzzzzz"):
        for word in ("show", "tell", "points", "sides", "count"):
            try:
                told[word, name] = desk.say(f"{word} {name}")
            except NoName:
                told[word, name] = None
    return told


class DeskTest(unittest.TestCase):
    def setUp(self):
        self.desk = Desk()

    def ok(self, *rows):
        for row in rows:
            self.assertEqual(self.desk.say(row), "ok", row)

    def says(self, row, answer):
        told = self.desk.say(row)
        self.assertIs(type(told), str)
        self.assertEqual(told, answer, row)

    def refused(self, kind, row):
        before = state(self.desk)
        with self.assertRaises(kind, msg=repr(row)) as caught:
            self.desk.say(row)
        self.assertIs(type(caught.exception), kind, repr(row))
        self.assertEqual(state(self.desk), before, repr(row))


class RowsTest(DeskTest):
    def test_sheets(self):
        self.ok("sheet a " + SPHERE_TEXT)
        self.says("show a", SPHERE_TEXT)
        self.says("points a", "3")
        self.says("number a", "2")
        self.says("sides a", "two")
        self.ok("sheet b 1 2 3 / 1 -2 -3")
        self.says("show b", "1 2 3 / 1 -2 -3")
        self.says("points b", "1")
        self.says("number b", "0")
        self.says("sides b", "one")

    def test_numbers_below_nought(self):
        sheet = next(sheet for sheet in chance_sheets(401, 5, (12,)) if number(sheet) < 0)
        self.ok("sheet a " + show_sheet(sheet))
        self.says("number a", str(number(sheet)))
        self.assertTrue(self.desk.say("number a").startswith("-"))

    def test_rows(self):
        self.ok("sheet a " + TORUS_TEXT, "row r a 4 6 10")
        self.says("tell r", "4 6 10")
        self.says("count r", "2")
        self.says("cords r", "2 x 2 3 5")
        self.says("left r", "1 of 0 0, 1 of 1 2")

    def test_noughts(self):
        self.ok("sheet a " + TORUS_TEXT, "row r a 0 0 0")
        self.says("tell r", "0 0 0")
        self.says("count r", "0")
        self.says("cords r", "none")
        self.says("left r", "1 of 1 2")

    def test_add(self):
        self.ok("sheet a " + TORUS_TEXT, "row r a 1 1 2", "row s a 2 2 2", "add q r s")
        self.says("tell q", "3 3 4")
        self.says("cords q", "1 x 1 1 2, 1 x 2 2 2")
        self.says("tell r", "1 1 2")
        self.ok("add r r r")
        self.says("tell r", "2 2 4")
        self.says("tell q", "3 3 4")
        self.ok("add s q r")
        self.says("tell s", "5 5 8")

    def test_the_sum_is_kept_with_the_sheet(self):
        self.ok("sheet a " + TORUS_TEXT, "sheet b " + SPHERE_TEXT, "row r a 1 1 2", "row q b 1 1 2", "add q r r")
        self.ok("sheet b " + TORUS_TEXT)
        self.says("tell q", "2 2 4")
        self.ok("add q q r", "turn a 3")
        self.says("tell q", "3 3 0")

    def test_ring(self):
        self.ok("sheet a " + SPHERE_TEXT, "ring r a 0", "ring s a 1", "ring q a 2")
        self.says("tell r", "1 0 1")
        self.says("tell s", "1 1 0")
        self.says("tell q", "0 1 1")
        self.ok("ring r a 2")
        self.says("tell r", "0 1 1")

    def test_turn(self):
        self.ok("sheet a " + TORUS_TEXT, "sheet b " + TORUS_TEXT, "row r a 4 6 10", "row s b 4 6 10", "row q a 1 1 2")
        self.ok("turn a 3")
        self.says("show a", show_sheet(turned_tie(TORUS, 3)))
        self.says("tell r", "4 6 2")
        self.says("tell q", "1 1 0")
        self.says("cords r", "2 x 2 3 1")
        self.says("show b", TORUS_TEXT)
        self.says("tell s", "4 6 10")
        self.ok("turn a 3")
        self.says("tell r", "4 6 10")

    def test_drop(self):
        self.ok("sheet a " + TORUS_TEXT, "row r a 1 1 2", "row s a 1 1 2", "drop r")
        self.refused(NoName, "tell r")
        self.refused(NoName, "drop r")
        self.says("tell s", "1 1 2")
        self.ok("row r a 2 2 2")
        self.says("tell r", "2 2 2")

    def test_a_sheet_in_the_place_of_another_one(self):
        self.ok("sheet a " + TORUS_TEXT, "sheet b " + TORUS_TEXT, "row r a 1 1 2", "row s b 1 1 2", "row q a 2 2 2")
        self.ok("sheet a " + SPHERE_TEXT)
        self.says("show a", SPHERE_TEXT)
        self.refused(NoName, "tell r")
        self.refused(NoName, "tell q")
        self.says("tell s", "1 1 2")
        # The very same sheet once more is another one, too.
        self.ok("sheet b " + TORUS_TEXT)
        self.refused(NoName, "tell s")

    def test_a_row_in_the_place_of_an_elder_one(self):
        self.ok("sheet a " + TORUS_TEXT, "sheet b " + SPHERE_TEXT, "row r a 1 1 2", "row r b 2 2 0")
        self.says("tell r", "2 2 0")
        self.says("cords r", "2 x 1 1 0")
        self.ok("sheet a " + SPHERE_TEXT)
        self.says("tell r", "2 2 0")
        self.ok("sheet b " + SPHERE_TEXT)
        self.refused(NoName, "tell r")

    def test_a_sheet_and_a_row_of_one_name(self):
        self.ok("sheet a " + TORUS_TEXT, "row a a 4 6 10")
        self.says("show a", TORUS_TEXT)
        self.says("tell a", "4 6 10")
        self.ok("add a a a", "turn a 3", "drop a")
        self.refused(NoName, "tell a")
        self.says("points a", "1")
        self.refused(NoName, "drop a")

    def test_names_like_words(self):
        self.ok("sheet sheet " + TORUS_TEXT, "row row sheet 1 1 2", "add ok row row", "ring none sheet 0")
        self.says("tell ok", "2 2 4")
        self.says("tell none", "2 2 2")

    def test_desks_of_their_own(self):
        other = Desk()
        self.ok("sheet a " + TORUS_TEXT)
        with self.assertRaises(NoName):
            other.say("show a")

    def test_far_rows(self):
        self.ok("sheet a " + TORUS_TEXT, f"row r a {6 * BIG} {3 * BIG} {9 * BIG}")
        self.says("count r", str(3 * BIG))
        self.says("cords r", f"{3 * BIG} x 2 1 3")
        self.says("left r", f"{3 * BIG - 1} of 0 0, 1 of 1 2")
        # What is kept may grow beyond what is read.
        self.ok("add r r r")
        self.says("tell r", f"{12 * BIG} {6 * BIG} {18 * BIG}")
        self.says("cords r", f"{6 * BIG} x 2 1 3")

    def test_rows_that_grow(self):
        self.ok("sheet a " + TORUS_TEXT, "row r a 1 1 2")
        for time in range(300):
            self.ok("add r r r")
        self.says("tell r", f"{2 ** 300} {2 ** 300} {2 ** 301}")
        self.says("cords r", f"{2 ** 300} x 1 1 2")


class NoTextTest(DeskTest):
    def setUp(self):
        self.desk = Desk()
        self.ok("sheet a " + TORUS_TEXT, "sheet b " + SPHERE_TEXT, "row r a 4 6 10", "row s b 1 1 2")

    def test_any_thing(self):
        for thing in ANY_THINGS + [["show a"], ("show a",), ["show", "a"], b"show a"]:
            self.refused(NoText, thing)

    def test_no_such_row(self):
        for row in ("", " ", "hello", "shows a", "Show a", "SHOW a", "sho a", "a", "a show", "show", "tell", "sheet", "row",
                    "add", "ring", "turn", "drop", "count", "cords", "left", "points", "number", "sides", "help a",
                    "show a b", "tell r r", "add q r", "add q r r r", "ring q a", "ring q a 0 0", "turn a", "turn a 1 1",
                    "drop r s", "sheet a", "row q a", "row q", "sheets a 1 2 3", "new a"):
            self.refused(NoText, row)

    def test_blanks(self):
        for row in (" show a", "show a ", "show  a", "show\ta", "show a\n", "\nshow a", "show ", "tell r ", "add q  r r",
                    "add q r r ", "add  q r r", "ring q a 0 ", "ring q a  0", "turn a  1", "turn  a 1", "turn a 1 ",
                    "sheet  a " + TORUS_TEXT, "sheet a  " + TORUS_TEXT, "sheet a " + TORUS_TEXT + " ",
                    "row q a  1 1 2", "row q  a 1 1 2", "row  q a 1 1 2", "row q a 1 1 2 ", "row q a 1  1 2"):
            self.refused(NoText, row)

    def test_names(self):
        for name in ("A", "a1", "1", "abcdefg", "zzzzzzz", "a_b", "a-b", "", "Abc", "abC", "a.", "0", "~", "a b", "none1"):
            for row in ("show {}", "points {}", "number {}", "sides {}", "tell {}", "count {}", "cords {}", "left {}",
                        "drop {}", "turn {} 1", "ring {} a 0", "ring q {} 0", "add {} r r", "add q {} r", "add q r {}",
                        "row {} a 1 1 2", "row q {} 1 1 2", "sheet {} " + TORUS_TEXT):
                self.refused(NoText, row.format(name))

    def test_names_of_one_and_of_six_letters(self):
        for name in ("a", "z", "abcdef", "zzzzzz", "ok"):
            self.ok(f"sheet {name} {TORUS_TEXT}", f"row {name} {name} 1 1 2", f"ring {name} {name} 0",
                    f"add {name} {name} {name}", f"turn {name} 1")
            self.says(f"points {name}", "1")

    def test_letters_of_other_alphabets_are_none(self):
        for name in ("\u00e4", "\u03b1", "\u0430", "\uff41"):
            self.refused(NoText, "show " + name)

    def test_k(self):
        for k in ("-1", "-0", "00", "01", "007", "100", "999", "x", "", "1.", "+1", "1a", "\u0661", "\u00b2", "0 ", "1" * 60):
            self.refused(NoText, "ring q a " + k)
            self.refused(NoText, "turn a " + k)
        self.ok("ring q a 0", "turn a 1")
        self.refused(NoRow, "ring q a 1")
        self.refused(NoRow, "ring q a 10")
        self.refused(NoRow, "ring q a 99")
        self.refused(NoTurn, "turn a 0")
        self.refused(NoTurn, "turn a 4")
        self.refused(NoTurn, "turn a 10")
        self.refused(NoTurn, "turn a 99")

    def test_a_k_of_two_figures(self):
        sheet = [(tie, tie + 1, tie + 2) for tie in range(1, 19, 3)] * 2
        self.ok("sheet a " + show_sheet(sheet))
        self.says("points a", "18")
        self.ok("ring q a 17", "turn a 18", "turn a 10")
        self.says("tell q", show_row(row_turned(sheet, ring(sheet, 17), 18)))
        self.refused(NoRow, "ring q a 18")
        self.refused(NoTurn, "turn a 19")

    def test_texts(self):
        for text in ("", "x", "1 2 3 /", "1 2 03 / 1 2 3", "1  2 3 / 1 2 3", "1 2 3 / 1 2 " + "1" * 61, "none", "1 2 3/1 2 3"):
            self.refused(NoText, "sheet q " + text)
            self.refused(NoText, "sheet a " + text)
        for text in ("", "x", "1 1 02", "1 1 2 / 1 1 2", "1  1 2", "-0 0 0", "1 1 " + "1" * 61, "1,1,2"):
            self.refused(NoText, "row q a " + text)
            self.refused(NoText, "row r a " + text)


class RefusalTest(DeskTest):
    def setUp(self):
        self.desk = Desk()
        self.ok("sheet a " + TORUS_TEXT, "sheet b " + SPHERE_TEXT, "row r a 4 6 10", "row s b 1 1 2", "ring new a 0")

    def test_no_name(self):
        for row in ("show q", "points q", "number q", "sides q", "tell q", "count q", "cords q", "left q", "drop q",
                    "turn q 1", "ring q q 0", "add q q r", "add q r q", "add q q q", "row q q 1 1 2"):
            self.refused(NoName, row)

    def test_sheets_and_rows_have_names_of_their_own_kind(self):
        for row in ("show r", "points r", "number r", "sides r", "turn r 1", "ring q r 0", "row q r 1 1 2", "tell a",
                    "count a", "cords a", "left a", "drop a", "add q a r", "add q r a"):
            self.refused(NoName, row)

    def test_two_rows_of_unlike_sheets(self):
        self.refused(NoName, "add q r s")
        self.refused(NoName, "add r r s")
        self.refused(NoName, "add s r s")
        # The sheets are alike here, but not their names.
        self.ok("sheet b " + TORUS_TEXT, "row s b 4 6 10")
        self.refused(NoName, "add q r s")

    def test_no_sheet(self):
        for text in ("1", "1 2 3", "1 2 3 / 1 2 4", "1 2 3 / 1 2", "0 1 2 / 0 1 2", " / ".join(["1 1 1"] * 14)):
            self.refused(NoSheet, "sheet q " + text)
            self.refused(NoSheet, "sheet a " + text)

    def test_no_row(self):
        for text in ("1", "1 1 1", "1 1 4", "-1 -1 -2", "1 1 2 0", "1 1", "1" * 60):
            self.refused(NoRow, "row q a " + text)
            self.refused(NoRow, "row r b " + text)

    def test_no_turn(self):
        self.ok("sheet a " + show_sheet(FOLDED), "row r a 3 4 2")
        self.refused(NoTurn, "turn a 1")
        self.refused(NoTurn, "turn a 3")
        self.refused(NoTurn, "turn a 0")
        self.ok("turn a 2")

    def test_which_goes_first(self):
        # A name that is none or a text not so written, ahead of a name by which none is kept.
        self.refused(NoText, "row r q 1 1 x")
        self.refused(NoText, "row R q 1 1 2")
        self.refused(NoText, "row r q 1 1 02")
        self.refused(NoText, "ring r q 100")
        self.refused(NoText, "turn q 100")
        self.refused(NoText, "add q q Q")
        self.refused(NoText, "add Q q r")
        self.refused(NoText, "add q q toolong")
        # A name by which none is kept, ahead of what is no row, no point and no tie.
        self.refused(NoName, "row r q 1 1 1")
        self.refused(NoName, "row r q 1")
        self.refused(NoName, "ring r q 99")
        self.refused(NoName, "turn q 99")
        # A text not so written, ahead of what is no sheet.
        self.refused(NoText, "sheet q 1 2 3 / 1 2 x")
        self.refused(NoText, "sheet Q 1 2 3")
        self.refused(NoText, "sheet a 1 2 3 / 1 2 00")

    def test_refusals_change_nothing(self):
        self.ok("sheet q " + show_sheet(KLEIN), "row q q 2 2 2")
        self.refused(NoSheet, "sheet q 1 2 3")
        self.refused(NoText, "sheet q 1 2 x")
        self.refused(NoRow, "row q q 1 1 1")
        self.refused(NoRow, "row q a 1 1 1")
        self.refused(NoRow, "ring q a 3")
        self.refused(NoName, "add q q r")
        self.refused(NoTurn, "turn q 4")
        self.says("tell q", "2 2 2")


class Kept:
    """What a desk should keep, by the functions alone."""

    def __init__(self):
        self.sheets = {}
        self.rows = {}

    def answers(self):
        """Each row that asks, and its answer."""
        found = {}
        for name, sheet in self.sheets.items():
            found["show " + name] = show_sheet(sheet)
            found["points " + name] = str(len(points(sheet)))
            found["number " + name] = str(number(sheet))
            found["sides " + name] = "one" if faces(sheet) is None else "two"
        for name, (sheet_name, row) in self.rows.items():
            sheet = self.sheets[sheet_name]
            found["tell " + name] = show_row(row)
            found["count " + name] = str(sum(copies for found_row, copies in cords(sheet, row)))
            found["cords " + name] = show_cords(cords(sheet, row))
            found["left " + name] = show_left(left(sheet, row))
        return found

    def change(self, chance, sheets):
        """Do something by chance; the row of text for it."""
        name, other = chance.choice(NAMES), chance.choice(NAMES)
        word = chance.choice(("sheet", "row", "row", "ring", "ring", "add", "add", "turn", "turn", "drop"))
        if word == "sheet" or not self.sheets:
            sheet = chance.choice(sheets)
            self.rows = {key: kept for key, kept in self.rows.items() if kept[0] != name}
            self.sheets[name] = sheet
            return f"sheet {name} {show_sheet(sheet)}"
        sheet_name = chance.choice(sorted(self.sheets))
        sheet = self.sheets[sheet_name]
        if word == "turn":
            ties = [tie for tie in range(1, ties_of(sheet) + 1)
                    if len({at for at, triangle in enumerate(sheet) if tie in map(abs, triangle)}) == 2]
            tie = chance.choice(ties)
            self.rows = {key: (at, row_turned(sheet, row, tie) if at == sheet_name else row)
                         for key, (at, row) in self.rows.items()}
            self.sheets[sheet_name] = turned_tie(sheet, tie)
            return f"turn {sheet_name} {tie}"
        if word == "ring":
            point = chance.randrange(len(points(sheet)))
            self.rows[name] = (sheet_name, ring(sheet, point))
            return f"ring {name} {sheet_name} {point}"
        if word == "row" or not self.rows:
            row = chance_row(chance, sheet, chance.choice((4, 10 ** 30)))
            self.rows[name] = (sheet_name, row)
            return f"row {name} {sheet_name} {show_row(row)}"
        return self.change_rows(chance, word, name)

    def change_rows(self, chance, word, name):
        one = chance.choice(sorted(self.rows))
        if word == "drop":
            del self.rows[one]
            return "drop " + one
        sheet_name, row = self.rows[one]
        other = chance.choice([key for key in sorted(self.rows) if self.rows[key][0] == sheet_name])
        self.rows[name] = (sheet_name, sum_of(self.sheets[sheet_name], row, self.rows[other][1]))
        return f"add {name} {one} {other}"


class TalkTest(DeskTest):
    def test_a_desk_answers_as_the_functions(self):
        chance = random.Random(402)
        sheets = NAMED + chance_sheets(403, 2, (4, 6))
        kept = Kept()
        for time in range(150):
            self.ok(kept.change(chance, sheets))
            if time % 5 == 0:
                for row, answer in kept.answers().items():
                    self.says(row, answer)
            names = [name for name in NAMES if name not in kept.rows]
            for name in names:
                with self.assertRaises(CordError):
                    self.desk.say("tell " + name)


if __name__ == "__main__":
    unittest.main()
