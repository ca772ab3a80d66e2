"""Texts of sheets, cord rows, cords and pieces left: written, and those of sheets and rows read."""

from farcords.cordrows import is_row
from farcords.errors import NoRow, NoSheet, NoText
from farcords.sheets import is_sheet

FIGURES = "0123456789"
MOST_FIGURES = 60
BETWEEN_TRIANGLES = " / "
# So many figures are written at once: Python itself writes no number of more than some thousands.
FIGURES_AT_ONCE = 60
BEYOND_AT_ONCE = 10 ** 60


def show_number(whole):
    """A whole number, written by its figures."""
    if whole < 0:
        return "-" + show_number(-whole)
    parts = []
    while whole >= BEYOND_AT_ONCE:
        whole, rest = divmod(whole, BEYOND_AT_ONCE)
        parts.append(str(rest).zfill(FIGURES_AT_ONCE))
    return str(whole) + "".join(reversed(parts))


def show_row(row):
    """A cord row, written."""
    return " ".join([show_number(whole) for whole in row])


def show_sheet(sheet):
    """A sheet, written."""
    return BETWEEN_TRIANGLES.join([show_row(triangle) for triangle in sheet])


def show_cords(cords):
    """A list of tuples (row, copies), written."""
    if not cords:
        return "none"
    return ", ".join([f"{show_number(copies)} x {show_row(row)}" for row, copies in cords])


def show_left(left):
    """A list of tuples (points, middles, how many), written."""
    return ", ".join([f"{show_number(many)} of {show_row([points, middles])}" for points, middles, many in left])


def is_number(text):
    """Tell whether a text is a whole number, so written."""
    figures = text[1:] if text.startswith("-") else text
    if not 1 <= len(figures) <= MOST_FIGURES or not all([sign in FIGURES for sign in figures]):
        return False
    return figures[0] != "0" or text == "0"


def parts_of(text, between):
    """What stands in a text with the same between each two."""
    if not isinstance(text, str):
        raise NoText("this is no text")
    return text.split(between)


def numbers_of(text):
    """The numbers that are written, one and more."""
    words = parts_of(text, " ")
    if not all([is_number(word) for word in words]):
        raise NoText("these are no numbers with a blank between")
    return [int(word) for word in words]


def triangles_of(text):
    """The triangles that are written, one and more, each of one number and more."""
    return [tuple(numbers_of(part)) for part in parts_of(text, BETWEEN_TRIANGLES)]


def sheet_of(triangles):
    """The triangles as a sheet, refused where they are none."""
    if not is_sheet(triangles):
        raise NoSheet("the triangles are no sheet")
    return triangles


def row_on(sheet, numbers):
    """The numbers as a cord row of the sheet, refused where they are none."""
    if not is_row(sheet, numbers):
        raise NoRow("the numbers are no cord row of the sheet")
    return numbers


def read_sheet(text):
    """The sheet that is written."""
    return sheet_of(triangles_of(text))


def read_row(sheet, text):
    """The cord row of the sheet that is written."""
    return row_on(sheet, numbers_of(text))
