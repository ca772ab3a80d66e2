"""Cords and gaps walked one by one, for small rows: what the program's answers are held against."""


def along(side, many):
    """The things of a tie, as (tie, number from its begin on), in the order in which the side goes along them."""
    things = [(abs(side), at) for at in range(many)]
    return things if side > 0 else things[::-1]


def corner_links(sheet, row, more):
    """For each triangle and corner both sides' things, each from the corner on, and the arcs there."""
    found = []
    for triangle in sheet:
        sides = [along(side, row[abs(side) - 1] + more) for side in triangle]
        numbers = [row[abs(side) - 1] for side in triangle]
        for i in range(3):
            j, k = (i + 1) % 3, (i + 2) % 3
            found.append((sides[i][::-1], sides[j], (numbers[i] + numbers[j] - numbers[k]) // 2))
    return found


def crossing_links(sheet, row):
    """The crossings that an arc leads to one another."""
    return [link for one, other, many in corner_links(sheet, row, 0) for link in zip(one[:many], other[:many])]


def gap_links(sheet, row):
    """The gaps that a strip between arcs, or a triangle's middle, leads to one another."""
    return [link for one, other, many in corner_links(sheet, row, 1) for link in zip(one[:many + 1], other[:many + 1])]


def held_together(things, links):
    """The things that links hold together, as a list of lists."""
    home = {thing: [thing] for thing in things}
    for one, other in links:
        if home[one] is not home[other]:
            joined = home[one] + home[other]
            for thing in joined:
                home[thing] = joined
    return list({id(room): room for room in home.values()}.values())


def things_of(row, more):
    return [(at + 1, place) for at, number in enumerate(row) for place in range(number + more)]


def cords_walked(sheet, row):
    """The sorted list of tuples (row, copies), each cord walked from crossing to crossing."""
    rows = []
    for cord in held_together(things_of(row, 0), crossing_links(sheet, row)):
        ties = [tie for tie, place in cord]
        rows.append([ties.count(at + 1) for at in range(len(row))])
    return sorted((list(kind), rows.count(list(kind))) for kind in {tuple(found) for found in rows})


def pieces_walked(sheet, row):
    """The pieces into which the cords cut the sheet, as lists of gaps."""
    return held_together(things_of(row, 1), gap_links(sheet, row))


def points_walked(sheet):
    """The points, by putting ends that meet at corners together."""
    ends = [(tie, end) for tie in sorted({abs(side) for triangle in sheet for side in triangle}) for end in (0, 1)]
    links = []
    for triangle in sheet:
        for i in range(3):
            side, following = triangle[i], triangle[(i + 1) % 3]
            links.append(((abs(side), int(side > 0)), (abs(following), int(following < 0))))
    return sorted(sorted(point) for point in held_together(ends, links))


def end_gap(end, row):
    """The gap at an end of a tie."""
    tie, is_last = end
    return (tie, row[tie - 1] if is_last else 0)


def middle_gap(triangle, row):
    """The gap of side 0 that has all arcs at corner 0 between itself and that corner."""
    one, other, many = corner_links([triangle], row, 1)[0]
    return one[many]


def gap_weights(sheet, row):
    """By each gap that has such, how many points and middles count there, as the document tells it."""
    weights = {}
    for point in points_walked(sheet):
        gap = end_gap(point[0], row)
        weights[gap] = (weights.get(gap, (0, 0))[0] + 1, weights.get(gap, (0, 0))[1])
    for triangle in sheet:
        gap = middle_gap(triangle, row)
        weights[gap] = (weights.get(gap, (0, 0))[0], weights.get(gap, (0, 0))[1] + 1)
    return weights


def left_walked(sheet, row):
    """The sorted list of (points, middles, how many): of each piece the points and middles that lie in it are sought."""
    kinds = []
    ends = [{end_gap(end, row) for end in point} for point in points_walked(sheet)]
    for piece in pieces_walked(sheet, row):
        gaps = set(piece)
        points = [point & gaps for point in ends]
        assert all(found in (set(), point) for found, point in zip(points, ends))
        kinds.append((sum(bool(found) for found in points),
                      sum(middle_gap(triangle, row) in gaps for triangle in sheet)))
    return sorted(kind + (kinds.count(kind),) for kind in set(kinds))
