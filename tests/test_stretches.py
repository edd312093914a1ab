"""Stretches: points 50, 54 and 80 to 82, and the interface of nolocktree/stretches.py."""

import unittest

from nolocktree.calls import Call
from nolocktree.errors import NoKey, NoSpan, Waits
from nolocktree.joins import Join
from nolocktree.pages import Inner, Leaf
from nolocktree.puts import Put
from nolocktree.shapes import pairs_of
from nolocktree.stretches import Parts, Whole
from nolocktree.takes import Take
from nolocktree.trees import Tree, tree_of
from tests.things import (
    GREATEST, LEAST, Checks, at_place, even_tree, go_to, leaf_of, no_keys, one_leaf, run_calls, scene_of, tall_tree,
    told_scene, told_tree, turns_of, walk_by)

KINDS = ((Parts, "parts"), (Whole, "whole"))


def goods_of(*keys):
    """The pairs of these keys as even_tree and leaf_of give them their goods."""
    return [(key, key + 10000) for key in keys]


def three_leaves(most=3):
    """Leaves in the places 0, 1 and 2, parted at 10 and 20, two keys each, beneath a top in place 3."""
    return tree_of(most, 3, 0, [
        (0, leaf_of([0, 5]), 10, 1, 0), (0, leaf_of([10, 15]), 20, 2, 0), (0, leaf_of([20, 25]), None, None, 0),
        (1, Inner([10, 20], [0, 1, 2]), None, None, 0)])


class MakingTests(Checks, unittest.TestCase):
    def test_each_is_a_call_and_tells_itself(self):
        for kind, word in KINDS:
            for low, high in ((LEAST, None), (GREATEST, None), (0, 1), (LEAST, GREATEST), (-5, 5)):
                call = kind(low, high)
                self.assertIsInstance(call, Call)
                self.assertEqual(call.told(), (word, low, high))
                self.assertIs(type(call.told()), tuple)

    def test_neither_is_the_other_one(self):
        self.assertNotIsInstance(Parts(1, 2), Whole)
        self.assertNotIsInstance(Whole(1, 2), Parts)

    def test_refuses_a_low_that_is_no_key_first(self):
        for kind, word in KINDS:
            for thing in no_keys():
                self.check_refused(NoKey, "found", thing, kind, thing, None)
                self.check_refused(NoKey, "found", thing, kind, thing, "high")

    def test_then_a_high_that_is_no_key_and_not_none(self):
        for kind, word in KINDS:
            for thing in no_keys():
                if thing is not None:
                    self.check_refused(NoKey, "found", thing, kind, 1, thing)

    def test_then_a_high_that_is_not_above_low(self):
        for kind, word in KINDS:
            for low, high in ((0, 0), (5, 4), (GREATEST, LEAST), (LEAST, LEAST), (GREATEST, GREATEST)):
                self.check_fields(NoSpan, {"low": low, "high": high}, kind, low, high)


class PartsTests(unittest.TestCase):
    """Stretches in parts alone."""

    def check_parts(self, tree, low, high, steps, parts):
        """That parts of the stretch takes these steps and ends with these parts, and changes nothing."""
        scene = scene_of(tree, Parts(low, high))
        for now, step in enumerate(steps):
            self.assertEqual((scene.now(), scene.where(0), scene.waits(0)), (now, step, None))
            self.assertEqual(scene.turn(0), step)
        self.assertEqual(scene.where(0), ("ended", None))
        self.assertEqual(scene.answer(0), parts)
        self.assertEqual(scene.history(), [(0, ("parts", low, high), 0, None, len(steps), parts)])
        self.assertEqual(told_tree(scene.tree()), told_tree(tree))

    def test_one_leaf(self):
        tree = one_leaf([1, 3, 5], 3)
        for low, high, keys in ((LEAST, None, [1, 3, 5]), (1, None, [1, 3, 5]), (2, None, [3, 5]), (6, None, []),
                                (1, 5, [1, 3]), (1, 6, [1, 3, 5]), (0, 1, []), (2, 3, []), (3, 4, [3])):
            self.check_parts(tree, low, high, walk_by(0), [(3, low, high, goods_of(*keys))])

    def test_a_new_tree(self):
        self.check_parts(Tree(2), 0, None, walk_by(0), [(3, 0, None, [])])
        self.check_parts(Tree(2), LEAST, GREATEST, walk_by(0), [(3, LEAST, GREATEST, [])])

    def test_several_leaves_to_the_very_end(self):
        parts = [(5, 0, 10, goods_of(0, 5)), (7, 10, 20, goods_of(10, 15)), (9, 20, None, goods_of(20, 25))]
        self.check_parts(three_leaves(), 0, None, walk_by(3, 0, 1, 2), parts)

    def test_from_amid_a_leaf_up_to_amid_another_one(self):
        parts = [(5, 3, 10, goods_of(5)), (7, 10, 20, goods_of(10, 15)), (9, 20, 25, goods_of(20))]
        self.check_parts(three_leaves(), 3, 25, walk_by(3, 0, 1, 2), parts)

    def test_a_high_above_all_keys(self):
        parts = [(5, 15, 20, goods_of(15)), (7, 20, 999, goods_of(20, 25))]
        self.check_parts(three_leaves(), 15, 999, walk_by(3, 1, 2), parts)

    def test_the_high_is_the_nodes_high(self):
        self.check_parts(three_leaves(), 0, 10, walk_by(3, 0), [(5, 0, 10, goods_of(0, 5))])
        first = (5, 5, 10, goods_of(5))
        self.check_parts(three_leaves(), 5, 20, walk_by(3, 0, 1), [first, (7, 10, 20, goods_of(10, 15))])
        self.check_parts(three_leaves(), 5, 11, walk_by(3, 0, 1), [first, (7, 10, 11, goods_of(10))])
        self.check_parts(three_leaves(), 0, 9, walk_by(3, 0), [(5, 0, 9, goods_of(0, 5))])

    def test_the_low_is_a_nodes_high(self):
        self.check_parts(three_leaves(), 10, 12, walk_by(3, 1), [(5, 10, 12, goods_of(10))])

    def test_leaves_without_keys_and_such_that_no_node_above_has(self):
        parts = [(7, 15, 20, []), (9, 20, 30, []), (11, 30, 40, [(30, 40)]), (13, 40, 45, [(40, 50)])]
        self.check_parts(tall_tree(), 15, 45, walk_by(7, 5, 1, 2, 4, 3), parts)

    def test_keys_at_either_bound(self):
        nodes = [(0, Leaf([LEAST], [1]), GREATEST, 1, 0), (0, Leaf([GREATEST], [2]), None, None, 0),
                 (1, Inner([GREATEST], [0, 1]), None, None, 0)]
        tree = tree_of(2, 2, 0, nodes)
        parts = [(5, LEAST, GREATEST, [(LEAST, 1)]), (7, GREATEST, None, [(GREATEST, 2)])]
        self.check_parts(tree, LEAST, None, walk_by(2, 0, 1), parts)
        self.check_parts(tree, LEAST, GREATEST, walk_by(2, 0), parts[:1])
        self.check_parts(tree, GREATEST, None, walk_by(2, 1), [(5, GREATEST, None, [(GREATEST, 2)])])


class WovenPartsTests(Checks, unittest.TestCase):
    """Stretches in parts beside others."""

    def test_each_part_is_that_of_its_own_moment(self):
        scene = scene_of(three_leaves(), Parts(0, 20))
        turns_of(scene, 0, 5)
        run_calls(scene, Put(1, 1), Put(11, 11))
        turns_of(scene, 0)
        parts = [(5, 0, 10, goods_of(0, 5)), (23, 10, 20, [(10, 10010), (11, 11), (15, 10015)])]
        self.assertEqual(scene.answer(0), parts)
        self.assertEqual(scene.history()[0], (0, ("parts", 0, 20), 0, None, 23, parts))

    def test_it_waits_at_a_held_leaf_and_holds_nothing(self):
        scene = scene_of(three_leaves(), Parts(0, None), Put(11, 11))
        turns_of(scene, 0, 5)
        go_to(scene, 1, "free")
        self.assertEqual((scene.where(0), scene.waits(0), scene.ready()), (("look", 1), 1, [1]))
        self.check_fields(Waits, {"doer": 0, "place": 1}, scene.turn, 0)
        turns_of(scene, 1)
        turns_of(scene, 0)
        self.assertEqual([len(part[3]) for part in scene.answer(0)], [2, 3, 2])

    def test_a_leaf_that_was_changed_since_its_look_is_looked_at_again(self):
        scene = scene_of(three_leaves(), Parts(10, 20))
        turns_of(scene, 0, 4)
        run_calls(scene, Take(10))
        self.assertEqual(turns_of(scene, 0), at_place(1, "read", "look", "read"))
        self.assertEqual(scene.answer(0), [(15, 10, 20, goods_of(15))])

    def test_a_leaf_that_was_parted_makes_one_part_more(self):
        scene = scene_of(three_leaves(2), Parts(0, 20))
        turns_of(scene, 0, 5)
        run_calls(scene, Put(12, 12))
        self.assertEqual(turns_of(scene, 0), at_place(1, "look", "read") + at_place(4, "look", "read"))
        self.assertEqual([part[1:] for part in scene.answer(0)],
                         [(0, 10, goods_of(0, 5)), (10, 15, [(10, 10010), (12, 12)]), (15, 20, goods_of(15))])

    def test_a_right_that_is_gone_by_then_leads_to_the_top_seeking_the_end(self):
        scene = scene_of(three_leaves(4), Parts(0, None))
        turns_of(scene, 0, 5)
        self.assertEqual(scene.where(0), ("look", 1))
        self.assertEqual(run_calls(scene, Join(0, 0)), [True])
        self.assertEqual(turns_of(scene, 0), [("look", 1)] + walk_by(3, 0, 2))
        moments = [part[0] for part in scene.answer(0)]
        self.assertEqual(scene.answer(0), [
            (moments[0], 0, 10, goods_of(0, 5)), (moments[1], 10, 20, goods_of(10, 15)),
            (moments[2], 20, None, goods_of(20, 25))])
        self.assertEqual(moments, [5, 22, 24])

    def test_a_right_that_goes_between_look_and_read(self):
        scene = scene_of(three_leaves(4), Parts(0, 20))
        turns_of(scene, 0, 6)
        self.assertEqual(scene.where(0), ("read", 1))
        run_calls(scene, Join(0, 0))
        self.assertEqual(turns_of(scene, 0), at_place(1, "read", "look") + walk_by(3, 0))
        self.assertEqual([part[1:] for part in scene.answer(0)], [(0, 10, goods_of(0, 5)), (10, 20, goods_of(10, 15))])

    def test_a_key_that_was_moved_is_told_once(self):
        # What was read is not read again: the next part begins at the end of the one ahead.
        scene = scene_of(three_leaves(4), Parts(3, None))
        turns_of(scene, 0, 7)
        run_calls(scene, Join(0, 0), Take(20), Take(25), Join(0, 0))
        turns_of(scene, 0)
        self.assertEqual([part[1:] for part in scene.answer(0)],
                         [(3, 10, goods_of(5)), (10, 20, goods_of(10, 15)), (20, None, [])])


class WholeTests(unittest.TestCase):
    """Whole stretches alone."""

    def check_whole(self, tree, low, high, places, checked, keys):
        """That a whole goes by these places, checks those, and ends with the pairs of these keys."""
        scene = scene_of(tree, Whole(low, high))
        steps = walk_by(*places)
        moment = len(steps)
        steps += [("check", place) for place in checked]
        for now, step in enumerate(steps):
            self.assertEqual((scene.now(), scene.where(0), scene.waits(0)), (now, step, None))
            self.assertEqual(scene.turn(0), step)
        self.assertEqual(scene.where(0), ("ended", None))
        pairs = [pair for pair in pairs_of(tree) if pair[0] in keys]
        self.assertEqual(scene.history(), [(0, ("whole", low, high), 0, moment, len(steps), pairs)])
        self.assertEqual(scene.answer(0), pairs)
        self.assertEqual(told_tree(scene.tree()), told_tree(tree))

    def test_one_leaf(self):
        tree = one_leaf([1, 3, 5], 3)
        for low, high, keys in ((LEAST, None, [1, 3, 5]), (2, None, [3, 5]), (6, None, []), (1, 5, [1, 3]), (2, 3, [])):
            self.check_whole(tree, low, high, [0], [0], keys)

    def test_a_new_tree(self):
        self.check_whole(Tree(5), 0, None, [0], [0], [])

    def test_several_leaves(self):
        self.check_whole(three_leaves(), 0, None, [3, 0, 1, 2], [0, 1, 2], [0, 5, 10, 15, 20, 25])
        self.check_whole(three_leaves(), 3, 25, [3, 0, 1, 2], [0, 1, 2], [5, 10, 15, 20])
        self.check_whole(three_leaves(), 15, 999, [3, 1, 2], [1, 2], [15, 20, 25])

    def test_the_high_is_the_nodes_high(self):
        self.check_whole(three_leaves(), 0, 10, [3, 0], [0], [0, 5])
        self.check_whole(three_leaves(), 5, 20, [3, 0, 1], [0, 1], [5, 10, 15])

    def test_such_that_no_node_above_has(self):
        self.check_whole(tall_tree(), 15, 45, [7, 5, 1, 2, 4, 3], [1, 2, 4, 3], [30, 40])

    def test_keys_at_either_bound(self):
        tree = tree_of(2, 0, 0, [(0, Leaf([LEAST, GREATEST], [1, 2]), None, None, 0)])
        self.check_whole(tree, LEAST, None, [0], [0], [LEAST, GREATEST])
        self.check_whole(tree, LEAST, GREATEST, [0], [0], [LEAST])


class WovenWholeTests(unittest.TestCase):
    """Whole stretches beside others."""

    def test_a_change_ahead_of_the_last_read_is_found_by_the_check(self):
        scene = scene_of(three_leaves(), Whole(0, 20))
        turns_of(scene, 0, 5)
        run_calls(scene, Put(1, 1))
        steps = at_place(1, "look", "read") + at_place(0, "check") + walk_by(3, 0, 1) + [("check", 0), ("check", 1)]
        self.assertEqual(turns_of(scene, 0), steps)
        self.assertEqual(scene.answer(0), [(0, 10000), (1, 1), (5, 10005), (10, 10010), (15, 10015)])
        self.assertEqual(scene.history()[0][2:5], (0, 23, 25))

    def test_a_change_behind_the_last_read_is_found_by_the_check(self):
        for done, call, found in ((7, Take(0), 0), (7, Take(10), 1), (8, Take(10), 1)):
            scene = scene_of(three_leaves(), Whole(0, 20))
            turns_of(scene, 0, done)
            run_calls(scene, call)
            steps = [("check", place) for place in (0, 1)][done - 7:found + 1]
            steps += walk_by(3, 0, 1) + [("check", 0), ("check", 1)]
            self.assertEqual(turns_of(scene, 0), steps)
            keys = [key for key in (0, 5, 10, 15) if key != call.told()[1]]
            self.assertEqual(scene.answer(0), goods_of(*keys))

    def test_a_change_behind_the_check_of_its_leaf_is_none_of_its_business(self):
        scene = scene_of(three_leaves(), Whole(0, 20))
        turns_of(scene, 0, 8)
        run_calls(scene, Take(0))
        self.assertEqual(turns_of(scene, 0), [("check", 1)])
        self.assertEqual(scene.answer(0), goods_of(0, 5, 10, 15))
        self.assertEqual([row[3] for row in scene.history()], [7, 16])

    def test_a_change_beside_the_stretch_in_one_of_its_leaves_makes_it_begin_again(self):
        scene = scene_of(three_leaves(), Whole(5, 11))
        turns_of(scene, 0, 7)
        run_calls(scene, Put(17, 17))
        self.assertEqual(turns_of(scene, 0),
                         [("check", 0), ("check", 1)] + walk_by(3, 0, 1) + [("check", 0), ("check", 1)])
        self.assertEqual(scene.answer(0), goods_of(5, 10))

    def test_a_check_of_a_held_node_goes_on(self):
        for word in ("write", "free"):
            scene = scene_of(three_leaves(), Whole(0, 20), Put(1, 1))
            turns_of(scene, 0, 7)
            go_to(scene, 1, word)
            self.assertEqual((scene.where(0), scene.waits(0), scene.ready()), (("check", 0), None, [0, 1]))
            self.assertEqual(turns_of(scene, 0), [("check", 0), ("check", 1)])
            self.assertEqual(scene.answer(0), goods_of(0, 5, 10, 15))
            turns_of(scene, 1)
            self.assertLess(scene.history()[0][3], scene.history()[1][3])

    def test_a_check_of_a_gone_node_begins_again(self):
        scene = scene_of(three_leaves(4), Whole(10, 20))
        turns_of(scene, 0, 5)
        self.assertEqual(run_calls(scene, Join(0, 0)), [True])
        self.assertEqual((scene.where(0), scene.tree().node(1)[7]), (("check", 1), True))
        self.assertEqual(turns_of(scene, 0), [("check", 1)] + walk_by(3, 0) + [("check", 0)])
        self.assertEqual(scene.answer(0), goods_of(10, 15))
        self.assertEqual(scene.history()[0][2:5], (0, 22, 23))

    def test_a_right_that_is_gone_by_then(self):
        scene = scene_of(three_leaves(4), Whole(0, 20))
        turns_of(scene, 0, 5)
        run_calls(scene, Join(0, 0))
        # It comes to the leaf in place 0 again, which has another version now than was noted at first.
        steps = [("look", 1)] + walk_by(3, 0) + [("check", 0)] + walk_by(3, 0) + [("check", 0)]
        self.assertEqual(turns_of(scene, 0), steps)
        self.assertEqual(scene.answer(0), goods_of(0, 5, 10, 15))

    def test_held_and_freed_and_not_written_is_no_change(self):
        scene = scene_of(three_leaves(2), Whole(0, 20))
        turns_of(scene, 0, 7)
        self.assertEqual(run_calls(scene, Join(0, 0)), [False])
        self.assertEqual(turns_of(scene, 0), [("check", 0), ("check", 1)])

    def test_it_may_begin_again_more_than_once(self):
        scene = scene_of(three_leaves(), Whole(0, 20))
        for turn in range(4):
            go_to(scene, 0, "check")
            run_calls(scene, Put(15, turn))
            self.assertEqual(turns_of(scene, 0, 2), [("check", 0), ("check", 1)])
            self.assertEqual(scene.where(0), ("top", None))
        turns_of(scene, 0)
        self.assertEqual(scene.answer(0)[-1], (15, 3))

    def test_its_moment_is_its_last_read_whatever_was_dropped(self):
        scene = scene_of(one_leaf([1], 2), Whole(0, None), Put(1, 5))
        turns_of(scene, 0, 3)
        turns_of(scene, 1)
        turns_of(scene, 0)
        self.assertEqual(scene.history(), [(0, ("whole", 0, None), 0, 13, 14, [(1, 5)]),
                                           (1, ("put", 1, 5), 0, 9, 9, 10001)])


class OwnTests(unittest.TestCase):
    """The lists of answers are the asker's own."""

    def scene(self):
        """A scene in which a parts and a whole have ended, and others have not."""
        scene = scene_of(three_leaves(), Parts(0, None), Whole(0, 20), Parts(0, None), Whole(0, 20))
        turns_of(scene, 0)
        turns_of(scene, 1)
        turns_of(scene, 2, 6)
        turns_of(scene, 3, 6)
        return scene

    def spoil(self, answer):
        """Change all lists of the answer."""
        for part in answer:
            if len(part) == 4:
                part[3].append((99, 99))
                part[3].pop(0)
        answer.clear()

    def test_told_answers_are_new_each_time(self):
        scene = self.scene()
        before = told_scene(scene)
        for number in (0, 1):
            answer = scene.answer(number)
            self.assertIs(type(answer), list)
            self.assertIsNot(answer, scene.answer(number))
            self.spoil(scene.answer(number))
            self.assertEqual(scene.answer(number), answer)
            self.spoil(scene.history()[number][5])
            self.assertEqual(scene.answer(number), answer)
            self.assertEqual(scene.history()[number][5], answer)
        self.assertIsNot(scene.answer(0)[0][3], scene.answer(0)[0][3])
        self.assertEqual(told_scene(scene), before)

    def test_kinds_of_what_is_told(self):
        scene = self.scene()
        for part in scene.answer(0):
            self.assertIs(type(part), tuple)
            self.assertIs(type(part[3]), list)
            self.assertTrue(all(type(pair) is tuple for pair in part[3]))
        self.assertTrue(all(type(pair) is tuple for pair in scene.answer(1)))

    def test_a_twin_has_its_own(self):
        scene = self.scene()
        twin = scene.twin()
        before = told_scene(scene)
        self.spoil(twin.answer(0))
        self.spoil(twin.history()[0][5])
        for number in (2, 3):
            turns_of(twin, number)
        self.assertEqual(told_scene(scene), before)
        for number in (2, 3):
            turns_of(scene, number)
        self.assertEqual(told_scene(scene), told_scene(twin))

    def test_one_call_in_two_scenes(self):
        parts, whole = Parts(0, None), Whole(0, None)
        first, second = scene_of(three_leaves(), parts, whole), scene_of(three_leaves(), parts, whole)
        before = told_scene(second)
        for number in (0, 1):
            turns_of(first, number)
        self.assertEqual(told_scene(second), before)


if __name__ == "__main__":
    unittest.main()
