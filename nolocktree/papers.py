"""Papers: whether a history shows each answer as that of one moment, and in which order."""

from nolocktree.errors import NoCall
from nolocktree.plain import Plain, are_pairs, is_plain_call, is_span, is_told, need_pairs
from nolocktree.words import is_good, is_key, is_level, is_number, is_place, is_whole

MANY_IN_ROW = 6
MANY_IN_PART = 4


def is_quiet_call(thing):
    """Whether the thing tells a call that changes no pairs and reads none: a join or a sink."""
    if is_told(thing, "join", 2):
        return is_key(thing[1]) and is_level(thing[2])
    return is_told(thing, "sink", 0)


def is_any_call(thing):
    """Whether the thing tells a call of some kind."""
    return is_plain_call(thing) or is_quiet_call(thing)


def is_listed(thing):
    """Whether the thing is a list of pairs, the keys rising."""
    return isinstance(thing, list) and are_pairs(thing)


def is_climbing(numbers):
    """Whether each of the whole numbers is above the one ahead of it."""
    return all([one < other for one, other in zip(numbers, numbers[1:])])


def is_part(thing, began, ended):
    """Whether the thing is a part with a moment behind began and not behind ended, all told of it taken alone."""
    if not isinstance(thing, tuple) or len(thing) != MANY_IN_PART:
        return False
    moment, start, end, pairs = thing
    return is_whole(moment, began + 1, ended) and is_span((start, end)) and is_listed(pairs)


def are_parts(thing, call, began, ended):
    """Whether the thing is the answer of parts: each begins where the one ahead ends, from the low up to the high."""
    if not isinstance(thing, list) or len(thing) == 0:
        return False
    if not all([is_part(one, began, ended) for one in thing]):
        return False
    word, low, high = call
    starts = [start for moment, start, end, pairs in thing]
    ends = [end for moment, start, end, pairs in thing]
    # What follows an end begins there; None is no key, so only the last end may be None.
    return starts == [low] + ends[:-1] and ends[-1] == high and is_climbing([part[0] for part in thing])


def is_answered(call, began, moment, ended, answer):
    """Whether the moment and the answer are such as a call of this kind has."""
    word = call[0]
    if word == "parts":
        return moment is None and are_parts(answer, call, began, ended)
    if not is_whole(moment, began + 1, ended):
        return False
    if word == "whole":
        return is_listed(answer)
    if word in ("join", "sink"):
        return isinstance(answer, bool)
    return answer is None or is_good(answer)


def is_history_row(thing):
    """Whether the thing is a row of a history, all told of it taken alone."""
    if not isinstance(thing, tuple) or len(thing) != MANY_IN_ROW:
        return False
    number, call, began, moment, ended, answer = thing
    if not is_place(number) or not is_any_call(call) or not is_place(began) or not is_number(ended):
        return False
    return is_answered(call, began, moment, ended, answer)


def are_history_rows(thing):
    """Whether the thing is a list of such rows, their numbers rising."""
    if not isinstance(thing, list) or not all([is_history_row(row) for row in thing]):
        return False
    return is_climbing([row[0] for row in thing])


def deeds_of(row):
    """What a row tells as done at a moment, one for each part of parts: moment, number, call, answer."""
    number, call, began, moment, ended, answer = row
    if call[0] != "parts":
        return [(moment, number, call, answer)]
    return [(at, number, ("whole", start, end), pairs) for at, start, end, pairs in answer]


def ordered_deeds(rows):
    """What all rows tell as done, in the order of the moments."""
    deeds = [deed for row in rows for deed in deeds_of(row)]
    return sorted(deeds, key=lambda deed: deed[0])


def agrees(store, call, answer):
    """Whether a plain store, which does the call now, answers so."""
    return is_quiet_call(call) or store.do(call) == answer


def shows_history(pairs, thing):
    """Whether the thing is a history in which each answer is that of a plain store of the pairs at its moment."""
    need_pairs(pairs)
    if not are_history_rows(thing):
        return False
    deeds = ordered_deeds(thing)
    if not is_climbing([deed[0] for deed in deeds]):
        return False
    store = Plain(pairs)
    return all([agrees(store, call, answer) for moment, number, call, answer in deeds])


def order_of(pairs, history):
    """The moments of a history, rising, each with the number of its call."""
    if not shows_history(pairs, history):
        raise NoCall(history)
    return [(moment, number) for moment, number, call, answer in ordered_deeds(history)]
