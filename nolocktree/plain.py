"""A plain store: what a tree should answer, told without any tree."""

from nolocktree.errors import NoCall, NoKey
from nolocktree.words import in_stretch, is_good, is_key, is_rising, is_row

MANY_IN_PAIR = 2


def is_pair(thing):
    """Whether the thing is a tuple of a key and a good."""
    return isinstance(thing, tuple) and len(thing) == MANY_IN_PAIR and is_key(thing[0]) and is_good(thing[1])


def are_pairs(thing):
    """Whether the thing is a list or a tuple of pairs, the keys rising."""
    if not is_row(thing) or not all([is_pair(one) for one in thing]):
        return False
    return is_rising([key for key, good in thing])


def need_pairs(thing):
    """Refuse what are no pairs."""
    if not are_pairs(thing):
        raise NoKey(thing)


def is_span(things):
    """Whether the two things are a low key and a high one above it, or None as the high one."""
    low, high = things
    return is_key(low) and (high is None or is_key(high) and high > low)


def is_told(thing, word, many):
    """Whether the thing is a tuple of this word and so many things behind it."""
    return isinstance(thing, tuple) and len(thing) == many + 1 and thing[0] == word


def is_plain_call(thing):
    """Whether the thing tells a call that a plain store does."""
    if is_told(thing, "find", 1) or is_told(thing, "take", 1):
        return is_key(thing[1])
    if is_told(thing, "put", 2):
        return is_key(thing[1]) and is_good(thing[2])
    if is_told(thing, "parts", 2) or is_told(thing, "whole", 2):
        return is_span(thing[1:])
    return False


class Plain:
    """Keys with goods, and nothing else."""

    def __init__(self, pairs):
        need_pairs(pairs)
        self.good_by_key = dict(pairs)

    def pairs(self):
        """All pairs, by their keys."""
        return sorted(self.good_by_key.items())

    def do(self, call):
        """Do a told call at once; tell its answer."""
        if not is_plain_call(call):
            raise NoCall(call)
        word, key, *more = call
        if word in ("parts", "whole"):
            return self.stretch(key, more[0])
        before = self.good_by_key.get(key)
        if word == "put":
            self.good_by_key[key] = more[0]
        elif word == "take":
            self.good_by_key.pop(key, None)
        return before

    def stretch(self, low, high):
        """The pairs in the stretch from low up to high."""
        return [(key, good) for key, good in self.pairs() if in_stretch(key, low, high)]
