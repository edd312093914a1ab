"""A desk: a scene that is asked by lines and answers by texts."""

from nolocktree.finds import Find
from nolocktree.joins import Join, Sink
from nolocktree.lines import (
    read_line, told_answer, told_levels, told_list, told_node, told_pairs, told_stand, told_thing, told_things)
from nolocktree.puts import Put
from nolocktree.scenes import Scene
from nolocktree.shapes import levels_of, pairs_of
from nolocktree.stretches import Parts, Whole
from nolocktree.takes import Take
from nolocktree.trees import Tree
from nolocktree.weavings import number_of, weaving_at, weavings

FIRST_MOST = 3


def begun(scene, call):
    """Let a call begin in the scene."""
    return told_thing(scene.begin(call))


def begin_find(scene, given):
    """The line find."""
    return begun(scene, Find(given[0]))


def begin_put(scene, given):
    """The line put."""
    return begun(scene, Put(given[0], given[1]))


def begin_take(scene, given):
    """The line take."""
    return begun(scene, Take(given[0]))


def begin_join(scene, given):
    """The line join."""
    return begun(scene, Join(given[0], given[1]))


def begin_sink(scene, given):
    """The line sink."""
    return begun(scene, Sink())


def begin_parts(scene, given):
    """The line parts."""
    return begun(scene, Parts(given[0], given[1]))


def begin_whole(scene, given):
    """The line whole."""
    return begun(scene, Whole(given[0], given[1]))


def do_turn(scene, given):
    """The line turn."""
    return told_stand(scene.turn(given[0]))


def do_run(scene, given):
    """The line run."""
    return told_thing(scene.run(given))


def do_rest(scene, given):
    """The line rest."""
    while scene.going():
        scene.turn(scene.ready()[0])
    return told_thing(scene.now())


def ask_now(scene, given):
    """The line now."""
    return told_thing(scene.now())


def ask_turns(scene, given):
    """The line turns."""
    return told_thing(scene.turns())


def ask_weavings(scene, given):
    """The line weavings."""
    return told_thing(weavings(scene))


def ask_going(scene, given):
    """The line going."""
    return told_list(scene.going())


def ask_ready(scene, given):
    """The line ready."""
    return told_list(scene.ready())


def ask_where(scene, given):
    """The line where."""
    return told_stand(scene.where(given[0]))


def ask_waits(scene, given):
    """The line waits."""
    return told_thing(scene.waits(given[0]))


def ended_row(scene, number):
    """What the history tells of a call, which must have ended."""
    # Asked for its refusals: a history has no row of such a call.
    scene.answer(number)
    return [row for row in scene.history() if row[0] == number][0]


def ask_answer(scene, given):
    """The line answer."""
    number, call, began, moment, ended, answer = ended_row(scene, given[0])
    return told_answer(call[0], answer)


def ask_row(scene, given):
    """The line row."""
    number, call, began, moment, ended, answer = ended_row(scene, given[0])
    return told_things([began, moment, ended])


def ask_weaving(scene, given):
    """The line weaving."""
    return told_list(weaving_at(scene, given[0]))


def ask_number(scene, given):
    """The line number."""
    return told_thing(number_of(scene, given))


def ask_top(scene, given):
    """The line top."""
    return told_thing(scene.tree().top())


def ask_places(scene, given):
    """The line places."""
    return told_list(scene.tree().places())


def ask_pairs(scene, given):
    """The line pairs."""
    return told_pairs(pairs_of(scene.tree()))


def ask_levels(scene, given):
    """The line levels."""
    return told_levels(levels_of(scene.tree()))


def ask_node(scene, given):
    """The line node."""
    return told_node(scene.tree().node(given[0]))


# What each line does, but the line tree, which gives the desk another scene.
DEEDS = {
    "find": begin_find,
    "put": begin_put,
    "take": begin_take,
    "join": begin_join,
    "sink": begin_sink,
    "parts": begin_parts,
    "whole": begin_whole,
    "turn": do_turn,
    "run": do_run,
    "rest": do_rest,
    "now": ask_now,
    "turns": ask_turns,
    "weavings": ask_weavings,
    "going": ask_going,
    "ready": ask_ready,
    "where": ask_where,
    "waits": ask_waits,
    "answer": ask_answer,
    "row": ask_row,
    "weaving": ask_weaving,
    "number": ask_number,
    "top": ask_top,
    "places": ask_places,
    "pairs": ask_pairs,
    "levels": ask_levels,
    "node": ask_node,
}


class Desk:
    """A scene, at first one of a new tree, and the lines by which it is asked."""

    def __init__(self):
        self.scene = Scene(Tree(FIRST_MOST))

    def tell(self, line):
        """Do what the line asks; tell its answer as a text."""
        word, given = read_line(line)
        if word == "tree":
            self.scene = Scene(Tree(given[0]))
            return "ok"
        deed = DEEDS[word]
        return deed(self.scene, given)
