"""Sheets and cord rows for the tests: all of two triangles, and others by a chance that is always the same."""

import itertools
import random

SPHERE = [(1, 2, 3), (-3, -2, -1)]
TORUS = [(1, 2, 3), (-1, -2, -3)]
PROJECTIVE = [(1, 2, 3), (1, 2, -3)]
KLEIN = [(1, 2, 3), (1, -2, -3)]
FOLDED = [(1, -1, 2), (-2, 3, -3)]
BENT = [(1, 1, 2), (2, 3, 3)]
TWO_PIECES = [(1, 2, 3), (4, 5, 6), (-4, -5, -6), (-1, -2, -3)]
MIXED_PIECES = [(1, 2, 3), (4, 4, 5), (5, 6, 6), (-1, -2, -3)]

NAMED = [SPHERE, TORUS, PROJECTIVE, KLEIN, FOLDED, BENT, TWO_PIECES, MIXED_PIECES]


def sheet_of(sides):
    """The sheet whose sides, one behind another, are told."""
    return [tuple(sides[at:at + 3]) for at in range(0, len(sides), 3)]


def sheets_of_two():
    """All sheets of two triangles, but for the names of their ties and which way they go."""
    found = []
    for ties in sorted(set(itertools.permutations([1, 1, 2, 2, 3, 3]))):
        if sorted(set(ties), key=ties.index) != [1, 2, 3]:
            continue
        for signs in itertools.product((1, -1), repeat=3):
            seen = set()
            sides = []
            for tie in ties:
                sides.append(tie * signs[tie - 1] if tie in seen else tie)
                seen.add(tie)
            found.append(sheet_of(sides))
    return found


def chance_sheet(chance, many, two_sided=False):
    """A sheet of so many triangles; with two sides, triangles lying either way about."""
    ties = list(range(1, many // 2 * 3 + 1)) * 2
    chance.shuffle(ties)
    seen = set()
    sides = []
    for tie in ties:
        sign = -1 if tie in seen else 1
        seen.add(tie)
        sides.append(tie * (sign if two_sided else chance.choice((1, -1))))
    return [upside_down(triangle) if chance.random() < 0.4 else triangle for triangle in sheet_of(sides)]


def upside_down(triangle):
    """The triangle gone round the other way."""
    return tuple(-side for side in reversed(triangle))


def chance_sheets(seed, times, sizes=(2, 4, 6, 8, 10, 12)):
    """So many sheets of each size, each second one with two sides, each time the same."""
    chance = random.Random(seed)
    return [chance_sheet(chance, many, time % 2 == 1) for many in sizes for time in range(times)]


def ties_of(sheet):
    return len(sheet) // 2 * 3


def small_rows(sheet, most):
    """All cord rows with numbers up to the most, as the document tells them."""
    return [list(numbers) for numbers in itertools.product(range(most + 1), repeat=ties_of(sheet))
            if fits_all(sheet, numbers)]


def fits_all(sheet, numbers):
    for triangle in sheet:
        a, b, c = [numbers[abs(side) - 1] for side in triangle]
        if (a + b + c) % 2 or a > b + c or b > a + c or c > a + b:
            return False
    return True


def even_parities(sheet):
    """A base of the rows of 0 and 1 that come to an even number at each triangle."""
    many = ties_of(sheet)
    base = [[int(at == place) for place in range(many)] for at in range(many)]
    for triangle in sheet:
        odd = [row for row in base if sum(row[abs(side) - 1] for side in triangle) % 2]
        base = [row for row in base if row not in odd]
        base += [[(a + b) % 2 for a, b in zip(odd[0], row)] for row in odd[1:]]
    return base


def chance_row(chance, sheet, most):
    """A cord row with numbers from half of the most to the most, perhaps one more."""
    parity = [0] * ties_of(sheet)
    for base in even_parities(sheet):
        if chance.random() < 0.5:
            parity = [(a + b) % 2 for a, b in zip(parity, base)]
    # The least two numbers come to the greatest at least, so no number is above the other two.
    return [2 * chance.randint(most // 4 + 1, most // 2) + bit for bit in parity]


def times_row(row, times):
    return [number * times for number in row]


def plus_row(one, other):
    return [a + b for a, b in zip(one, other)]


def beside(sheet, tie):
    """The numbers of the triangles that have the tie, one for each of its sides."""
    return [at for at, triangle in enumerate(sheet) for side in triangle if abs(side) == tie]


def turnable(sheet):
    """The ties whose two sides are of two triangles."""
    return [tie for tie in range(1, ties_of(sheet) + 1) if len(set(beside(sheet, tie))) == 2]
