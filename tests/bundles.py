"""Bundles of cords that are known beforehand, however far: small ones are walked, then each cord is taken often."""

import random

from tests.cords_walked import cords_walked
from tests.sheets_made import chance_row, chance_sheets, plus_row, times_row


def merged(bundle):
    """The bundle with alike rows put together, sorted."""
    copies = {}
    for row, many in bundle:
        copies[tuple(row)] = copies.get(tuple(row), 0) + many
    return sorted((list(row), many) for row, many in copies.items() if many)


def has_one_side_walked(sheet, row):
    """Whether twice the row of a single cord is a single cord, too."""
    return cords_walked(sheet, times_row(row, 2)) == [(times_row(row, 2), 1)]


def crosses_oddly(sheet, row):
    """The same, by the ties whose two sides have like signs."""
    signs = {}
    for triangle in sheet:
        for side in triangle:
            signs.setdefault(abs(side), []).append(side > 0)
    return sum(row[tie - 1] for tie in signs if signs[tie][0] == signs[tie][1]) % 2 == 1


def laid(row, one_side, times):
    """The cords of a single one's row taken so many times."""
    if one_side:
        return [(row, times % 2), (times_row(row, 2), times // 2)]
    return [(row, times)]


def times_bundle(sheet, bundle, k):
    """The bundle of the whole row taken k times, as point 3 tells it."""
    found = []
    for row, copies in bundle:
        found += laid(row, crosses_oddly(sheet, row), copies * k)
    return merged(found)


def whole_row(bundle):
    """All rows times their copies together."""
    rows = [times_row(row, copies) for row, copies in bundle]
    whole = rows[0]
    for row in rows[1:]:
        whole = plus_row(whole, row)
    return whole


def chance_bundles(seed, times, most=10 ** 57):
    """So many sheets of each size, each with a bundle: cords of a small row, each taken any number of times."""
    chance = random.Random(seed)
    found = []
    for sheet in chance_sheets(seed, times):
        bundle = []
        for row, copies in cords_walked(sheet, chance_row(chance, sheet, 12)):
            bundle += laid(row, has_one_side_walked(sheet, row), chance.randint(1, most))
        found.append((sheet, merged(bundle)))
    return found
