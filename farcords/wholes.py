"""Whole numbers, told apart from truths."""


def is_whole(thing):
    """Tell whether a thing is a whole number."""
    # Python takes a truth for an int, but here it is no number.
    return isinstance(thing, int) and not isinstance(thing, bool)


def is_whole_from(thing, least):
    """Tell whether a thing is a whole number, the least one or above it."""
    return is_whole(thing) and thing >= least
