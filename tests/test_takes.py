"""Taking: point 70, and the interface of nolocktree/takes.py."""

import unittest

from nolocktree.calls import Call
from nolocktree.errors import NoKey, Waits
from nolocktree.finds import Find
from nolocktree.pages import Leaf
from nolocktree.puts import Put
from nolocktree.shapes import is_shaped, levels_of, pairs_of
from nolocktree.takes import Take
from nolocktree.trees import Tree, tree_of
from tests.things import (
    GREATEST, LEAST, Checks, even_tree, go_to, no_keys, one_leaf, scene_of, tall_tree, turns_of, walk_by)

WRITING = ("hold", "write", "free")


class MakingTests(Checks, unittest.TestCase):
    def test_is_a_call_and_tells_itself(self):
        for key in (LEAST, 0, 17, GREATEST):
            call = Take(key)
            self.assertIsInstance(call, Call)
            self.assertEqual(call.told(), ("take", key))
            self.assertIs(type(call.told()), tuple)

    def test_refuses_what_is_no_key(self):
        for thing in no_keys():
            self.check_refused(NoKey, "found", thing, Take, thing)


class AloneTests(unittest.TestCase):
    def test_step_by_step(self):
        scene = scene_of(one_leaf([5, 7], 3), Take(5))
        steps = [("top", None), ("look", 0), ("read", 0), ("hold", 0), ("write", 0), ("free", 0)]
        nodes = [(0, [5, 7], [10005, 10007], None, None, 0, None, False)] * 4
        nodes += [(0, [5, 7], [10005, 10007], None, None, 0, 0, False), (0, [7], [10007], None, None, 0, 0, False)]
        for step, node in zip(steps, nodes):
            self.assertEqual(scene.where(0), step)
            self.assertEqual(scene.tree().node(0), node)
            self.assertEqual(scene.turn(0), step)
        self.assertEqual(scene.where(0), ("ended", None))
        self.assertEqual(scene.tree().node(0), (0, [7], [10007], None, None, 1, None, False))
        self.assertEqual(scene.history(), [(0, ("take", 5), 0, 6, 6, 10005)])

    def test_a_key_that_is_not_there_ends_with_the_read(self):
        for tree in (Tree(2), one_leaf([4, 6], 3)):
            scene = scene_of(tree, Take(5))
            self.assertEqual(turns_of(scene, 0), walk_by(0))
            self.assertEqual(scene.history(), [(0, ("take", 5), 0, 3, 3, None)])
            self.assertEqual(scene.tree().node(0), tree.node(0))

    def test_a_good_of_nought_is_there(self):
        scene = scene_of(tree_of(2, 0, 0, [(0, Leaf([1], [0]), None, None, 0)]), Take(1))
        self.assertEqual(len(turns_of(scene, 0)), 6)
        self.assertEqual(scene.answer(0), 0)
        self.assertEqual(pairs_of(scene.tree()), [])

    def test_high_and_right_stay(self):
        scene = scene_of(tall_tree(), Take(10))
        turns_of(scene, 0)
        self.assertEqual(scene.tree().node(1), (0, [], [], 20, 2, 2, None, False))

    def test_led_to_the_right(self):
        scene = scene_of(tall_tree(), Take(30))
        self.assertEqual(turns_of(scene, 0), walk_by(7, 5, 2, 4) + [(word, 4) for word in WRITING])
        self.assertEqual(scene.answer(0), 40)

    def test_keys_at_either_bound(self):
        tree = tree_of(2, 0, 0, [(0, Leaf([LEAST, GREATEST], [1, 2]), None, None, 0)])
        scene = scene_of(tree, Take(GREATEST), Take(LEAST))
        for number in (0, 1):
            turns_of(scene, number)
        self.assertEqual((scene.answer(0), scene.answer(1), pairs_of(scene.tree())), (2, 1, []))

    def test_leaves_without_keys_stay_where_they_are(self):
        scene = scene_of(even_tree(3), *[Take(key) for key in range(0, 40, 5)])
        for number in range(8):
            turns_of(scene, number)
            self.assertEqual(scene.answer(number), 10000 + 5 * number)
            self.assertIs(is_shaped(scene.tree()), True)
        self.assertEqual(pairs_of(scene.tree()), [])
        self.assertEqual(levels_of(scene.tree()), levels_of(even_tree(3)))


class WovenTests(Checks, unittest.TestCase):
    def test_two_takes_of_one_key(self):
        scene = scene_of(one_leaf([5, 7], 3), Take(5), Take(5))
        go_to(scene, 0, "hold")
        go_to(scene, 1, "hold")
        scene.turn(0)
        self.check_fields(Waits, {"doer": 1, "place": 0}, scene.turn, 1)
        turns_of(scene, 0)
        self.assertEqual(turns_of(scene, 1), [("hold", 0), ("look", 0), ("read", 0)])
        self.assertEqual((scene.answer(0), scene.answer(1)), (10005, None))
        self.assertEqual([row[3:5] for row in scene.history()], [(9, 9), (12, 12)])

    def test_a_take_of_a_key_that_was_put_meanwhile(self):
        scene = scene_of(one_leaf([5], 3), Take(6), Put(6, 60))
        turns_of(scene, 0, 2)
        turns_of(scene, 1)
        self.assertEqual(turns_of(scene, 0), [("read", 0), ("look", 0), ("read", 0)] + [(word, 0) for word in WRITING])
        self.assertEqual(scene.answer(0), 60)
        self.assertEqual(pairs_of(scene.tree()), [(5, 10005)])

    def test_a_take_of_a_key_that_has_another_good_by_then(self):
        scene = scene_of(one_leaf([5], 3), Take(5), Put(5, 60))
        go_to(scene, 0, "hold")
        turns_of(scene, 1)
        self.assertEqual(turns_of(scene, 0), [("hold", 0), ("look", 0), ("read", 0)] + [(word, 0) for word in WRITING])
        self.assertEqual((scene.answer(1), scene.answer(0)), (10005, 60))

    def test_a_key_that_was_moved_to_the_right_meanwhile(self):
        scene = scene_of(one_leaf([5, 9], 2), Take(9), Put(7, 1))
        go_to(scene, 0, "hold")
        turns_of(scene, 1)
        steps = [("hold", 0), ("look", 0), ("read", 0), ("look", 1), ("read", 1)]
        self.assertEqual(turns_of(scene, 0), steps + [(word, 1) for word in WRITING])
        self.assertEqual(pairs_of(scene.tree()), [(5, 10005), (7, 1)])

    def test_a_find_waits_for_a_take(self):
        scene = scene_of(one_leaf([5], 3), Take(5), Find(5))
        scene.turn(1)
        go_to(scene, 0, "write")
        self.assertEqual((scene.waits(1), scene.ready()), (0, [0]))
        turns_of(scene, 0)
        turns_of(scene, 1)
        self.assertIsNone(scene.answer(1))


if __name__ == "__main__":
    unittest.main()
