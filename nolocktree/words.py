"""The kinds of plain things: whole numbers, keys, goods, places, levels, and lists of rising keys."""

LEAST_KEY = -999999999
GREATEST_KEY = 999999999
LEAST_MOST = 2
GREATEST_MOST = 5
GREATEST_LEVEL = 60
GREATEST_COUNT = 1000000


def is_number(thing):
    """Whether the thing is a whole number, however great."""
    # True and False are ints to Python, but no whole numbers here.
    return isinstance(thing, int) and not isinstance(thing, bool)


def is_whole(thing, low, high):
    """Whether the thing is a whole number from low to high, both counted."""
    return is_number(thing) and low <= thing <= high


def is_key(thing):
    """Whether the thing is a key."""
    return is_whole(thing, LEAST_KEY, GREATEST_KEY)


def is_good(thing):
    """Whether the thing is a good; goods have the bounds of keys."""
    return is_whole(thing, LEAST_KEY, GREATEST_KEY)


def is_place(thing):
    """Whether the thing is a place; there is no greatest one."""
    return is_number(thing) and thing >= 0


def is_most(thing):
    """Whether the thing is a most: how many keys a node of a tree may have."""
    return is_whole(thing, LEAST_MOST, GREATEST_MOST)


def is_level(thing):
    """Whether the thing is a level that a node may be made of."""
    return is_whole(thing, 0, GREATEST_LEVEL)


def is_count(thing):
    """Whether the thing is a lap or a version that may be handed in."""
    return is_whole(thing, 0, GREATEST_COUNT)


def is_doer(thing):
    """Whether the thing is the number of a doer; these have the bounds of counts."""
    return is_count(thing)


def is_row(thing):
    """Whether the thing is a list or a tuple, of whatever."""
    return isinstance(thing, (list, tuple))


def is_rising(thing):
    """Whether the thing is a list or a tuple of rising keys, perhaps of none."""
    if not is_row(thing):
        return False
    for at, key in enumerate(thing):
        if not is_key(key):
            return False
        if at > 0 and key <= thing[at - 1]:
            return False
    return True


def in_stretch(key, low, high):
    """Whether the key is not below low and is below high; None stands for no such end."""
    return (low is None or low <= key) and (high is None or key < high)
