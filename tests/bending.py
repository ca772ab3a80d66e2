"""Things of wrong kinds: any thing at all, and things with one part made of another kind."""

DEEP = [[[[[[1]]]]]]

ANY_THINGS = [
    None, True, False, 0, 1, -1, 2, 10 ** 62, "", "a", "1 2 3", "none", [], (), [[]], [()], ([],), ((),), [None], (None,),
    [True], [0], [1, 2, 4], (1, 2, 3), ["1", "2", "3"], [[1, 2, 3], [1, 2, 3]], ((1, 2, 3), (1, 2, 3)), DEEP, (DEEP, DEEP),
    [0] * 400, [()] * 399, ["rooms"], ("rooms",), ("cords", [], [], [], []),
]


def other_kinds(thing):
    """The thing itself made of other kinds, but not its parts."""
    if isinstance(thing, bool):
        return [int(thing), None, str(thing), [thing]]
    if isinstance(thing, int):
        return [True, False, None, str(thing), [thing], (thing,)]
    if isinstance(thing, str):
        return [None, list(thing), (thing,), 0, True]
    if isinstance(thing, list):
        return [tuple(thing), None, "", 0, True, [thing], (thing,)]
    return [list(thing), None, "", 0, True, [thing], (thing,)]


def bent(thing):
    """The thing with one of its parts, or itself, made of another kind, each such one."""
    found = other_kinds(thing)
    if isinstance(thing, (list, tuple)):
        for at, part in enumerate(thing):
            for other in bent(part):
                found.append(type(thing)(list(thing[:at]) + [other] + list(thing[at + 1:])))
    return found
