"""Lines and their answers: numbers plainly written, the forms of a desk's lines, and how what is told is written."""

from nolocktree.errors import NoLine

FIGURES = "0123456789"
MOST_FIGURES = 9

# What stands behind the first word of a line: a key or good, an end (a key, or a dash for None), a whole number from
# 0 on; or such numbers, one or more.
FORMS = {
    "tree": ("whole",),
    "find": ("key",),
    "put": ("key", "key"),
    "take": ("key",),
    "join": ("key", "whole"),
    "sink": (),
    "parts": ("key", "end"),
    "whole": ("key", "end"),
    "turn": ("whole",),
    "run": ("wholes",),
    "rest": (),
    "now": (),
    "turns": (),
    "weavings": (),
    "going": (),
    "ready": (),
    "where": ("whole",),
    "waits": ("whole",),
    "answer": ("whole",),
    "row": ("whole",),
    "weaving": ("whole",),
    "number": ("wholes",),
    "top": (),
    "places": (),
    "pairs": (),
    "levels": (),
    "node": ("whole",),
}


def plain_number(word, most_figures):
    """The number that the word writes plainly, with at most so many figures; None where it writes none."""
    figures = word.removeprefix("-")
    if figures == "" or len(figures) > most_figures or not all([sign in FIGURES for sign in figures]):
        return None
    if figures[0] == "0" and word != "0":
        return None
    return int(word)


def is_written(kind, word):
    """Whether the word writes a thing of this kind."""
    if kind == "end" and word == "-":
        return True
    number = plain_number(word, MOST_FIGURES)
    return number is not None and (kind != "whole" or number >= 0)


def kinds_for(word, many):
    """The kinds of what stands behind the first word of a line, so many words; None where they are not so many."""
    kinds = FORMS.get(word)
    if kinds == ("wholes",) and many > 0:
        return ("whole",) * many
    if kinds is None or len(kinds) != many:
        return None
    return kinds


def read_line(line):
    """The first word of a line, and what is given behind it: numbers, None for a dash."""
    if not isinstance(line, str):
        raise NoLine(line)
    word, *rest = line.split(" ")
    kinds = kinds_for(word, len(rest))
    if kinds is None or not all([is_written(kind, one) for kind, one in zip(kinds, rest)]):
        raise NoLine(line)
    return (word, [plain_number(one, MOST_FIGURES) for one in rest])


def told_thing(thing):
    """A number, None or a truth, as it is told."""
    if thing is None:
        return "-"
    if thing is True:
        return "yes"
    if thing is False:
        return "no"
    return str(thing)


def told_things(things):
    """Such things, one behind the other."""
    return " ".join([told_thing(one) for one in things])


def told_list(numbers):
    """A list of numbers."""
    return told_things(numbers) or "none"


def told_stand(stands):
    """Where a doer stands."""
    word, place = stands
    return f"{word} {told_thing(place)}"


def told_pairs(pairs):
    """A list of pairs."""
    return " ".join([f"{key}:{good}" for key, good in pairs]) or "none"


def told_parts(parts):
    """The answer of a stretch in parts."""
    return " / ".join([f"{told_things(part[:3])} {told_pairs(part[3])}" for part in parts])


def told_answer(word, answer):
    """The answer of a call with this word."""
    if word == "parts":
        return told_parts(answer)
    if word == "whole":
        return told_pairs(answer)
    return told_thing(answer)


def told_levels(levels):
    """The levels of a tree."""
    return " / ".join([told_list(places) for places in levels])


def told_node(node):
    """All that a tree tells of a node."""
    level, keys, goods, high, right, version, holder, gone = node
    words = [told_things([level, version, holder]), "gone" if gone else "here", told_things([high, right]), "keys"]
    words += [told_thing(key) for key in keys] + ["goods"] + [told_thing(good) for good in goods]
    return " ".join(words)
