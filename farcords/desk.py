"""The desk: keeps sheets and cord rows by names, and answers rows of text."""

from farcords.cordrows import ring, sum_of
from farcords.cords import cords, hall_of
from farcords.counting import counted
from farcords.errors import NoName, NoRow, NoText
from farcords.leavings import left
from farcords.sheets import faces, number, points
from farcords.texts import is_number, numbers_of, row_on, sheet_of, triangles_of
from farcords.texts import show_cords, show_left, show_number, show_row, show_sheet
from farcords.ties import row_turned, turned_tie

LETTERS = "abcdefghijklmnopqrstuvwxyz"
MOST_LETTERS = 6
MOST_FIGURES_OF_K = 2
DONE = "ok"

# What stands behind each word: a new name, the name of a sheet or of a row that is kept, a number K, or a text.
FORMS = {
    "sheet": ("new", "triangles"),
    "row": ("new", "sheet", "numbers"),
    "show": ("sheet",),
    "points": ("sheet",),
    "number": ("sheet",),
    "sides": ("sheet",),
    "tell": ("row",),
    "add": ("new", "row", "row"),
    "ring": ("new", "sheet", "k"),
    "turn": ("sheet", "k"),
    "count": ("row",),
    "cords": ("row",),
    "left": ("row",),
    "drop": ("row",),
}


def read_name(text):
    """The name that is written."""
    if not 1 <= len(text) <= MOST_LETTERS or not all([sign in LETTERS for sign in text]):
        raise NoText("this is no name")
    return text


def read_k(text):
    """The whole number from 0 on that is written by two figures at most."""
    if not is_number(text) or text.startswith("-") or len(text) > MOST_FIGURES_OF_K:
        raise NoText("this is no number of two figures at most")
    return int(text)


def read_part(kind, text):
    """What is written, of the kind told."""
    if kind == "triangles":
        return triangles_of(text)
    if kind == "numbers":
        return numbers_of(text)
    return read_k(text) if kind == "k" else read_name(text)


def read_order(row):
    """The word of a row of text, and what is written behind it."""
    if not isinstance(row, str):
        raise NoText("this is no text")
    word, blank, rest = row.partition(" ")
    if word not in FORMS:
        raise NoText("there is no such row")
    form = FORMS[word]
    # The last part takes all that is left, as a text may have blanks; a name or a number with a blank is none.
    texts = rest.split(" ", len(form) - 1)
    if len(texts) != len(form):
        raise NoText("there are fewer words than belong to the row")
    return (word, [read_part(kind, text) for kind, text in zip(form, texts)])


def keep_sheet(desk, parts):
    """Keep a sheet; the rows of one that was kept by its name go."""
    name, triangles = parts
    sheet = sheet_of(triangles)
    for row_name in desk.rows_with(name):
        desk.rows.pop(row_name)
    desk.sheets[name] = sheet
    return DONE


def keep_row(desk, parts):
    """Keep a cord row of a sheet."""
    name, sheet_name, numbers = parts
    desk.rows[name] = (sheet_name, row_on(desk.sheets[sheet_name], numbers))
    return DONE


def tell_sheet(desk, parts):
    """The sheet, written."""
    return show_sheet(desk.sheets[parts[0]])


def tell_points(desk, parts):
    """How many points the sheet has."""
    return show_number(len(points(desk.sheets[parts[0]])))


def tell_number(desk, parts):
    """The number of the sheet."""
    return show_number(number(desk.sheets[parts[0]]))


def tell_sides(desk, parts):
    """How many sides the sheet has."""
    return "one" if faces(desk.sheets[parts[0]]) is None else "two"


def tell_row(desk, parts):
    """The cord row, written."""
    return show_row(desk.rows[parts[0]][1])


def keep_sum(desk, parts):
    """Keep the sum of two rows of one sheet."""
    name, one, other = parts
    sheet_name, row = desk.rows[one]
    other_sheet, other_row = desk.rows[other]
    if other_sheet != sheet_name:
        raise NoName("the rows are of unlike sheets")
    desk.rows[name] = (sheet_name, sum_of(desk.sheets[sheet_name], row, other_row))
    return DONE


def keep_ring(desk, parts):
    """Keep the ring round a point of a sheet."""
    name, sheet_name, point = parts
    sheet = desk.sheets[sheet_name]
    if point >= len(points(sheet)):
        raise NoRow("the sheet has no such point")
    desk.rows[name] = (sheet_name, ring(sheet, point))
    return DONE


def turn_tie(desk, parts):
    """Turn a tie of a sheet, and all rows of the sheet with it."""
    name, tie = parts
    sheet = desk.sheets[name]
    turned = turned_tie(sheet, tie)
    for row_name in desk.rows_with(name):
        desk.rows[row_name] = (name, row_turned(sheet, desk.rows[row_name][1], tie))
    desk.sheets[name] = turned
    return DONE


def tell_count(desk, parts):
    """How many cords the row has."""
    sheet_name, row = desk.rows[parts[0]]
    return show_number(counted(hall_of(desk.sheets[sheet_name], row))[0])


def tell_cords(desk, parts):
    """The cords of the row, written."""
    sheet_name, row = desk.rows[parts[0]]
    return show_cords(cords(desk.sheets[sheet_name], row))


def tell_left(desk, parts):
    """The pieces that the row leaves, written."""
    sheet_name, row = desk.rows[parts[0]]
    return show_left(left(desk.sheets[sheet_name], row))


def drop_row(desk, parts):
    """Let a row go."""
    desk.rows.pop(parts[0])
    return DONE


DOINGS = {
    "sheet": keep_sheet,
    "row": keep_row,
    "show": tell_sheet,
    "points": tell_points,
    "number": tell_number,
    "sides": tell_sides,
    "tell": tell_row,
    "add": keep_sum,
    "ring": keep_ring,
    "turn": turn_tie,
    "count": tell_count,
    "cords": tell_cords,
    "left": tell_left,
    "drop": drop_row,
}


class Desk:
    """Sheets by their names, and cord rows by theirs, each with its sheet's name."""

    def __init__(self):
        self.sheets = {}
        self.rows = {}

    def rows_with(self, sheet_name):
        """The names of the rows that are kept with that sheet's name."""
        return [name for name, kept in self.rows.items() if kept[0] == sheet_name]

    def demand_kept(self, kind, name):
        """Refuse a name of a sheet, or of a row, by which none is kept."""
        if (kind == "sheet" and name not in self.sheets) or (kind == "row" and name not in self.rows):
            raise NoName("nothing is kept by this name")

    def say(self, row):
        """The answer to a row of text."""
        word, parts = read_order(row)
        for kind, part in zip(FORMS[word], parts):
            self.demand_kept(kind, part)
        doing = DOINGS[word]
        return doing(self, parts)
