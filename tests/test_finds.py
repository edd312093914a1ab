"""Finding: points 50, 54 and 55, and the interface of nolocktree/finds.py."""

import unittest

from nolocktree.calls import Call
from nolocktree.errors import NoKey, Waits
from nolocktree.finds import Find
from nolocktree.pages import Inner, Leaf
from nolocktree.puts import Put
from nolocktree.trees import Tree, tree_of
from tests.things import (
    GREATEST, LEAST, Checks, even_tree, go_to, join_unposted, leaf_of, no_keys, scene_of, spread, tall_tree, turns_of,
    walk_by)


class MakingTests(Checks, unittest.TestCase):
    def test_is_a_call_and_tells_itself(self):
        for key in (LEAST, -1, 0, 1, 17, GREATEST):
            call = Find(key)
            self.assertIsInstance(call, Call)
            self.assertEqual(call.told(), ("find", key))
            self.assertIs(type(call.told()), tuple)

    def test_refuses_what_is_no_key(self):
        for thing in no_keys():
            self.check_refused(NoKey, "found", thing, Find, thing)


class WalkTests(unittest.TestCase):
    def check_find(self, tree, key, places, answer):
        """That a find alone goes by these places, one step behind the other, and ends with this answer."""
        scene = scene_of(tree, Find(key))
        steps = walk_by(*places)
        for now, step in enumerate(steps):
            self.assertEqual(scene.now(), now)
            self.assertEqual(scene.where(0), step)
            self.assertIsNone(scene.waits(0))
            self.assertEqual(scene.turn(0), step)
        self.assertEqual(scene.where(0), ("ended", None))
        self.assertEqual(scene.answer(0), answer)
        self.assertEqual(scene.history(), [(0, ("find", key), 0, len(steps), len(steps), answer)])

    def test_in_a_new_tree(self):
        for key in (LEAST, 0, GREATEST):
            self.check_find(Tree(3), key, [0], None)

    def test_each_key_and_beside_it_in_one_leaf(self):
        tree = tree_of(3, 0, 0, [(0, Leaf([LEAST, 5, GREATEST], [7, 0, 9]), None, None, 0)])
        for key, answer in ((LEAST, 7), (LEAST + 1, None), (4, None), (5, 0), (6, None), (GREATEST, 9)):
            self.check_find(tree, key, [0], answer)

    def test_down_to_the_child_for_the_key(self):
        for key, places in ((LEAST, [6, 4, 0]), (9, [6, 4, 0]), (10, [6, 4, 1]), (19, [6, 4, 1]), (20, [6, 5, 2]),
                            (25, [6, 5, 2]), (29, [6, 5, 2]), (30, [6, 5, 3]), (GREATEST, [6, 5, 3])):
            self.check_find(even_tree(3), key, places, key + 10000 if key in range(0, 40, 5) else None)

    def test_one_to_four_levels(self):
        for levels in (1, 2, 3, 4):
            for key in range(-3, 10 * 2 ** (levels - 1) + 3):
                scene = scene_of(even_tree(levels), Find(key))
                self.assertEqual(len(turns_of(scene, 0)), 2 * levels + 1)
                there = key in range(0, 10 * 2 ** (levels - 1), 5)
                self.assertEqual(scene.answer(0), key + 10000 if there else None)

    def test_led_to_the_right_at_a_high(self):
        self.check_find(tall_tree(), 29, [7, 5, 2], None)
        self.check_find(tall_tree(), 30, [7, 5, 2, 4], 40)
        self.check_find(tall_tree(), 39, [7, 5, 2, 4], None)
        self.check_find(tall_tree(), 40, [7, 5, 6, 3], 50)
        self.check_find(tall_tree(), 50, [7, 5, 6, 8], 60)
        self.check_find(tall_tree(), 59, [7, 5, 6, 8], None)
        self.check_find(tall_tree(), 60, [7, 9, 10], 70)

    def test_led_to_the_right_of_the_top(self):
        nodes = [(0, leaf_of([1]), 10, 1, 0), (0, leaf_of([]), 20, 2, 0), (0, leaf_of([20]), None, None, 0)]
        for key, places, answer in ((9, [0], None), (10, [0, 1], None), (20, [0, 1, 2], 10020), (21, [0, 1, 2], None)):
            self.check_find(tree_of(2, 0, 0, nodes), key, places, answer)

    def test_highs_at_either_bound(self):
        nodes = [(0, Leaf([], []), LEAST, 1, 0), (0, Leaf([LEAST], [1]), GREATEST, 2, 0),
                 (0, Leaf([GREATEST], [2]), None, None, 0), (1, Inner([LEAST, GREATEST], [0, 1, 2]), None, None, 0)]
        self.check_find(tree_of(2, 3, 0, nodes), LEAST, [3, 1], 1)
        self.check_find(tree_of(2, 3, 0, nodes), GREATEST - 1, [3, 1], None)
        self.check_find(tree_of(2, 3, 0, nodes), GREATEST, [3, 2], 2)

    def test_nodes_with_no_keys_above(self):
        nodes = [(0, leaf_of([5]), None, None, 0)]
        nodes += [(level, Inner([], [level - 1]), None, None, 0) for level in range(1, 21)]
        self.check_find(tree_of(2, 20, 0, nodes), 5, list(range(20, -1, -1)), 10005)


class ChangedTests(Checks, unittest.TestCase):
    """A reader beside a writer of the same node: the reader is doer 0, the writer doer 1."""

    def scene(self, key):
        """A find of the key beside a put of it, in a leaf with room; the find stands at the look."""
        scene = scene_of(tree_of(3, 0, 0, [(0, Leaf([5], [6]), None, None, 0)]), Find(key), Put(5, 7))
        scene.turn(0)
        return scene

    def test_a_look_of_a_held_node_waits_until_it_is_freed(self):
        scene = self.scene(5)
        go_to(scene, 1, "write")
        for word in ("write", "free"):
            self.assertEqual(scene.where(1), (word, 0))
            self.assertEqual((scene.where(0), scene.waits(0)), (("look", 0), 0))
            self.assertEqual((scene.going(), scene.ready()), ([0, 1], [1]))
            self.check_fields(Waits, {"doer": 0, "place": 0}, scene.turn, 0)
            scene.turn(1)
        self.assertEqual((scene.waits(0), scene.ready()), (None, [0]))
        self.assertEqual(turns_of(scene, 0), [("look", 0), ("read", 0)])
        self.assertEqual(scene.answer(0), 7)

    def test_a_read_of_a_held_node_does_not_wait_but_looks_again(self):
        for word in ("write", "free"):
            scene = self.scene(5)
            scene.turn(0)
            go_to(scene, 1, word)
            self.assertEqual((scene.where(0), scene.waits(0), scene.ready()), (("read", 0), None, [0, 1]))
            self.assertEqual(scene.turn(0), ("read", 0))
            self.assertEqual((scene.where(0), scene.waits(0), scene.ready()), (("look", 0), 0, [1]))
            turns_of(scene, 1)
            self.assertEqual(turns_of(scene, 0), [("look", 0), ("read", 0)])
            self.assertEqual(scene.answer(0), 7)

    def test_a_read_of_a_node_that_was_changed_since_the_look_looks_again(self):
        scene = self.scene(5)
        scene.turn(0)
        turns_of(scene, 1)
        self.assertEqual(turns_of(scene, 0), [("read", 0), ("look", 0), ("read", 0)])
        self.assertEqual(scene.answer(0), 7)

    def test_a_read_ahead_of_the_hold_tells_what_was_there(self):
        scene = self.scene(5)
        go_to(scene, 1, "hold")
        self.assertEqual(turns_of(scene, 0), [("look", 0), ("read", 0)])
        self.assertEqual(scene.answer(0), 6)

    def test_a_node_that_was_parted_since_the_look_leads_to_the_right(self):
        scene = scene_of(tree_of(2, 0, 0, [(0, Leaf([5, 9], [6, 10]), None, None, 0)]), Find(9), Put(7, 8))
        scene.turn(0)
        scene.turn(0)
        turns_of(scene, 1)
        steps = [("read", 0), ("look", 0), ("read", 0), ("look", 1), ("read", 1)]
        self.assertEqual(turns_of(scene, 0), steps)
        self.assertEqual(scene.answer(0), 10)

    def test_a_child_that_was_parted_since_its_place_was_read_leads_to_the_right(self):
        scene = scene_of(even_tree(2, 2), Find(15), Put(12, 1))
        turns_of(scene, 0, 3)
        self.assertEqual(scene.where(0), ("look", 1))
        turns_of(scene, 1)
        self.assertEqual(turns_of(scene, 0), [("look", 1), ("read", 1), ("look", 3), ("read", 3)])
        self.assertEqual(scene.answer(0), 10015)

    def test_other_nodes_that_are_held_are_none_of_its_business(self):
        scene = scene_of(even_tree(2, 3), Find(15), Put(2, 1))
        go_to(scene, 1, "write")
        self.assertEqual(turns_of(scene, 0), walk_by(2, 1))


class GoneTests(unittest.TestCase):
    """A reader of a node that goes."""

    def joined(self, steps):
        """A scene whose find of 30 has done so many steps when the unposted leaf in place 4 goes."""
        scene = scene_of(tall_tree(), Find(30))
        turns_of(scene, 0, steps)
        join_unposted(scene)
        return scene

    def test_a_look_of_a_gone_node_comes_from_the_top(self):
        scene = self.joined(7)
        self.assertEqual((scene.where(0), scene.waits(0)), (("look", 4), None))
        self.assertEqual(turns_of(scene, 0), [("look", 4)] + walk_by(7, 5, 2))
        self.assertEqual(scene.answer(0), 10030)

    def test_a_read_of_a_gone_node_looks_again(self):
        scene = self.joined(8)
        self.assertEqual((scene.where(0), scene.waits(0)), (("read", 4), None))
        self.assertEqual(turns_of(scene, 0), [("read", 4), ("look", 4)] + walk_by(7, 5, 2))
        self.assertEqual(scene.answer(0), 10030)

    def test_the_place_is_kept_until_the_reader_has_ended(self):
        scene = self.joined(8)
        self.assertEqual(scene.tree().rounds().kept(), [(4, 0)])
        turns_of(scene, 0)
        self.assertEqual((scene.tree().rounds().kept(), scene.tree().rounds().free()), ([], [4]))


class ManyTests(unittest.TestCase):
    def test_finds_do_not_hinder_one_another(self):
        calls = [Find(key) for key in range(0, 40, 5)]
        scene = scene_of(even_tree(3), *calls)
        for turn in range(7):
            self.assertEqual(scene.ready(), list(range(8)))
            for number in range(8):
                scene.turn(number)
        self.assertEqual(scene.going(), [])
        self.assertEqual([scene.answer(number) for number in range(8)], [10000 + key for key in range(0, 40, 5)])
        self.assertEqual([row[3] for row in scene.history()], list(range(49, 57)))

    def test_a_find_changes_nothing_in_the_tree(self):
        tree = tall_tree()
        scene = scene_of(tree, Find(30), Find(31))
        nodes = [tree.node(place) for place in tree.places()]
        turns_of(scene, 0)
        turns_of(scene, 1)
        self.assertEqual([scene.tree().node(place) for place in scene.tree().places()], nodes)

    def test_pages_of_most_keys(self):
        for most in (2, 3, 4, 5):
            keys = spread(most)
            tree = tree_of(most, 0, 0, [(0, leaf_of(keys), None, None, 0)])
            for key in range(0, 70):
                scene = scene_of(tree, Find(key))
                turns_of(scene, 0)
                self.assertEqual(scene.answer(0), key + 10000 if key in keys else None)


if __name__ == "__main__":
    unittest.main()
