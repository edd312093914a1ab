"""Putting: points 60 to 64, and the interface of nolocktree/puts.py."""

import unittest

from nolocktree.calls import Call
from nolocktree.errors import NoGood, NoKey, Waits
from nolocktree.finds import Find
from nolocktree.pages import Inner, Leaf
from nolocktree.puts import Put
from nolocktree.shapes import is_shaped, levels_of, pairs_of, unposted
from nolocktree.takes import Take
from nolocktree.trees import Tree, tree_of
from tests.things import (
    GREATEST, LEAST, Checks, at_place, even_tree, go_to, join_unposted, leaf_of, no_keys, one_leaf, scene_of, spread,
    tall_tree, turns_of, walk_by)


def grown_tree():
    """A tree with most 2 and three levels, by puts of 10, 20, up to 70, one behind the other."""
    scene = scene_of(Tree(2))
    for key in range(10, 80, 10):
        turns_of(scene, scene.begin(Put(key, key + 1)))
    return scene.tree()


class MakingTests(Checks, unittest.TestCase):
    def test_is_a_call_and_tells_itself(self):
        for key in (LEAST, 0, GREATEST):
            for good in (LEAST, 0, 5, GREATEST):
                call = Put(key, good)
                self.assertIsInstance(call, Call)
                self.assertEqual(call.told(), ("put", key, good))
                self.assertIs(type(call.told()), tuple)

    def test_refuses_what_is_no_key_and_then_what_is_no_good(self):
        for thing in no_keys():
            self.check_refused(NoKey, "found", thing, Put, thing, 1)
            self.check_refused(NoKey, "found", thing, Put, thing, "good")
            self.check_refused(NoGood, "found", thing, Put, 1, thing)


class RoomTests(unittest.TestCase):
    """Puts into a leaf that has room."""

    def test_step_by_step(self):
        scene = scene_of(one_leaf([5], 2), Put(7, 8))
        steps = walk_by(0) + at_place(0, "hold", "write", "free")
        nodes = [(0, [5], [10005], None, None, 0, None, False)] * 4
        nodes += [(0, [5], [10005], None, None, 0, 0, False), (0, [5, 7], [10005, 8], None, None, 0, 0, False)]
        for step, node in zip(steps, nodes):
            self.assertEqual(scene.where(0), step)
            self.assertEqual(scene.tree().node(0), node)
            self.assertEqual(scene.turn(0), step)
        self.assertEqual(scene.where(0), ("ended", None))
        self.assertEqual(scene.tree().node(0), (0, [5, 7], [10005, 8], None, None, 1, None, False))
        self.assertEqual(scene.history(), [(0, ("put", 7, 8), 0, 6, 6, None)])
        self.assertEqual(scene.tree().rounds().going(), [])

    def test_a_key_that_is_there_has_the_new_good_and_the_old_one_is_told(self):
        for keys in ([5], [5, 9], [1, 5]):
            scene = scene_of(one_leaf(keys, 2), Put(5, 0))
            self.assertEqual(turns_of(scene, 0), walk_by(0) + at_place(0, "hold", "write", "free"))
            self.assertEqual(scene.answer(0), 10005)
            self.assertEqual(dict(pairs_of(scene.tree()))[5], 0)
            self.assertEqual(scene.tree().places(), [0])

    def test_a_good_of_nought_is_told_as_it_was(self):
        scene = scene_of(Tree(2), Put(1, 0), Put(1, 5))
        turns_of(scene, 0)
        turns_of(scene, 1)
        self.assertEqual((scene.answer(0), scene.answer(1)), (None, 0))

    def test_keys_at_either_bound(self):
        scene = scene_of(Tree(2), Put(GREATEST, LEAST), Put(LEAST, GREATEST))
        turns_of(scene, 0)
        turns_of(scene, 1)
        self.assertEqual(pairs_of(scene.tree()), [(LEAST, GREATEST), (GREATEST, LEAST)])

    def test_as_many_keys_as_the_most(self):
        for most in (2, 3, 4, 5):
            keys = spread(most)
            scene = scene_of(one_leaf(keys[:-1], most), Put(keys[-1], 1))
            self.assertEqual(len(turns_of(scene, 0)), 6)
            self.assertEqual(scene.tree().places(), [0])

    def test_high_and_right_stay(self):
        scene = scene_of(tall_tree(), Put(15, 1))
        turns_of(scene, 0)
        self.assertEqual(scene.tree().node(1), (0, [10, 15], [20, 1], 20, 2, 2, None, False))

    def test_led_to_the_right_it_puts_where_the_key_belongs(self):
        scene = scene_of(tall_tree(), Put(35, 1))
        self.assertEqual(turns_of(scene, 0), walk_by(7, 5, 2, 4) + at_place(4, "hold", "write", "free"))
        self.assertEqual(scene.tree().node(4)[1:3], ([30, 35], [40, 1]))


class PartedTests(unittest.TestCase):
    """Puts into a node that is full."""

    def test_the_top_leaf_step_by_step(self):
        scene = scene_of(one_leaf([5, 9], 2), Put(7, 8))
        steps = walk_by(0) + at_place(0, "hold", "make", "write", "free")
        self.assertEqual(turns_of(scene, 0, 4), steps[:4])
        self.assertEqual((scene.where(0), scene.tree().places()), (("make", 0), [0]))
        self.assertEqual(scene.turn(0), ("make", 0))
        self.assertEqual(scene.where(0), ("write", 0))
        self.assertEqual(scene.tree().node(1), (0, [9], [10009], None, None, 0, None, False))
        self.assertEqual(scene.tree().node(0), (0, [5, 9], [10005, 10009], None, None, 0, 0, False))
        scene.turn(0)
        self.assertEqual(scene.tree().node(0), (0, [5, 7], [10005, 8], 9, 1, 0, 0, False))
        self.assertEqual(scene.turn(0), ("free", 0))
        self.assertEqual(scene.tree().node(0), (0, [5, 7], [10005, 8], 9, 1, 1, None, False))
        self.assertEqual((scene.now(), scene.where(0), scene.going()), (7, ("top", None), [0]))
        self.assertEqual((unposted(scene.tree()), is_shaped(scene.tree())), ([1], True))
        self.assertEqual(turns_of(scene, 0), [("top", None), ("look", 0), ("grow", 0)])
        tree = scene.tree()
        self.assertEqual((tree.top(), tree.places()), (2, [0, 1, 2]))
        self.assertEqual(tree.node(2), (1, [9], [0, 1], None, None, 0, None, False))
        self.assertEqual(scene.history(), [(0, ("put", 7, 8), 0, 7, 10, None)])
        self.assertEqual(unposted(tree), [])

    def test_a_leaf_beneath_another_node(self):
        scene = scene_of(even_tree(2, 2), Put(3, 1))
        steps = walk_by(2, 0) + at_place(0, "hold", "make", "write", "free")
        steps += walk_by(2) + at_place(2, "hold", "write", "free")
        self.assertEqual(turns_of(scene, 0), steps)
        tree = scene.tree()
        self.assertEqual(tree.node(0), (0, [0, 3], [10000, 1], 5, 3, 1, None, False))
        self.assertEqual(tree.node(3), (0, [5], [10005], 10, 1, 0, None, False))
        self.assertEqual(tree.node(2), (1, [5, 10], [0, 3, 1], None, None, 1, None, False))
        self.assertEqual(scene.history(), [(0, ("put", 3, 1), 0, 9, 15, None)])

    def test_parts_of_each_most(self):
        lefts = {2: 2, 3: 2, 4: 3, 5: 3}
        for most, left in lefts.items():
            keys = spread(most + 1)
            for key in keys:
                scene = scene_of(one_leaf([one for one in keys if one != key], most), Put(key, key + 10000))
                turns_of(scene, 0)
                tree = scene.tree()
                self.assertEqual((tree.node(0)[1], tree.node(1)[1]), (keys[:left], keys[left:]))
                self.assertEqual(tree.node(2)[:3], (1, [keys[left]], [0, 1]))
                self.assertEqual(pairs_of(tree), [(one, one + 10000) for one in keys])

    def test_an_inner_top_is_parted_in_its_turn(self):
        scene = scene_of(Tree(2))
        for key in range(10, 70, 10):
            turns_of(scene, scene.begin(Put(key, key + 1)))
        self.assertEqual(levels_of(scene.tree()), [[2], [0, 1, 3]])
        began = scene.now()
        number = scene.begin(Put(70, 71))
        steps = walk_by(2, 3) + at_place(3, "hold", "make", "write", "free")
        steps += walk_by(2) + at_place(2, "hold", "make", "write", "free")
        steps += [("top", None), ("look", 2), ("grow", 2)]
        self.assertEqual(turns_of(scene, number), steps)
        tree = scene.tree()
        self.assertEqual(levels_of(tree), [[6], [2, 5], [0, 1, 3, 4]])
        self.assertEqual(tree.node(6), (2, [50], [2, 5], None, None, 0, None, False))
        self.assertEqual(tree.node(2)[:5], (1, [30], [0, 1], 50, 5))
        self.assertEqual(tree.node(5)[:5], (1, [70], [3, 4], None, None))
        self.assertEqual(scene.history()[-1], (number, ("put", 70, 71), began, began + 9, began + 19, None))

    def test_a_node_that_no_node_above_has_is_parted_and_its_part_posted(self):
        scene = scene_of(tall_tree(2), Put(31, 1), Put(32, 2))
        turns_of(scene, 0)
        steps = walk_by(7, 5, 2, 4) + at_place(4, "hold", "make", "write", "free")
        steps += walk_by(7, 5) + at_place(5, "hold", "make", "write", "free")
        steps += walk_by(7) + at_place(7, "hold", "write", "free")
        self.assertEqual(turns_of(scene, 1), steps)
        tree = scene.tree()
        self.assertEqual(levels_of(tree), [[7], [5, 12, 6, 9], [0, 1, 2, 4, 11, 3, 8, 10]])
        self.assertEqual(tree.node(5)[:5], (1, [10], [0, 1], 20, 12))
        self.assertEqual(tree.node(12)[:5], (1, [32], [2, 11], 40, 6))
        self.assertEqual(tree.node(7)[1:3], ([20, 60], [5, 12, 9]))
        self.assertEqual(unposted(tree), [6, 4])

    def test_a_post_is_led_to_the_right_above(self):
        scene = scene_of(tall_tree(2), Put(41, 1))
        steps = walk_by(7, 5, 6, 3) + at_place(3, "hold", "make", "write", "free")
        steps += walk_by(7, 5, 6) + at_place(6, "hold", "write", "free")
        self.assertEqual(turns_of(scene, 0), steps)
        self.assertEqual(scene.tree().node(6)[1:3], ([49, 50], [3, 11, 8]))

    def test_the_least_free_place_is_given_with_its_version(self):
        nodes = [8, (0, leaf_of([5, 9]), None, None, 0), 6, 4]
        scene = scene_of(tree_of(2, 1, 0, nodes), Put(7, 8))
        turns_of(scene, 0)
        tree = scene.tree()
        self.assertEqual(levels_of(tree), [[2], [1, 0]])
        self.assertEqual([tree.node(place)[5] for place in (0, 1, 2)], [8, 1, 6])

    def test_the_tree_of_many_puts(self):
        tree = grown_tree()
        self.assertEqual((tree.top(), tree.places()), (6, [0, 1, 2, 3, 4, 5, 6]))
        self.assertEqual(pairs_of(tree), [(key, key + 1) for key in range(10, 80, 10)])
        self.assertIs(is_shaped(tree), True)


class HoldTests(Checks, unittest.TestCase):
    """Two that write the same node."""

    def test_a_second_one_waits_and_then_looks_again(self):
        scene = scene_of(one_leaf([5], 3), Put(6, 60), Put(7, 70))
        go_to(scene, 0, "hold")
        go_to(scene, 1, "hold")
        self.assertEqual(scene.ready(), [0, 1])
        for word in ("hold", "write", "free"):
            self.assertEqual(scene.turn(0), (word, 0))
            if word != "free":
                self.assertEqual((scene.waits(1), scene.ready()), (0, [0]))
                self.check_fields(Waits, {"doer": 1, "place": 0}, scene.turn, 1)
        self.assertEqual((scene.waits(1), scene.ready()), (None, [1]))
        steps = at_place(0, "hold", "look", "read", "hold", "write", "free")
        self.assertEqual(turns_of(scene, 1), steps)
        self.assertEqual(pairs_of(scene.tree()), [(5, 10005), (6, 60), (7, 70)])

    def test_the_same_key_twice(self):
        scene = scene_of(one_leaf([5], 3), Put(5, 60), Put(5, 70))
        go_to(scene, 0, "hold")
        go_to(scene, 1, "hold")
        turns_of(scene, 1)
        turns_of(scene, 0)
        self.assertEqual((scene.answer(1), scene.answer(0)), (10005, 70))
        self.assertEqual(pairs_of(scene.tree()), [(5, 60)])

    def test_a_node_that_was_parted_ahead_of_the_hold_leads_to_the_right(self):
        scene = scene_of(one_leaf([5, 9], 2), Put(10, 1), Put(7, 2))
        go_to(scene, 0, "hold")
        turns_of(scene, 1)
        steps = at_place(0, "hold", "look", "read") + at_place(1, "look", "read", "hold", "write", "free")
        self.assertEqual(turns_of(scene, 0), steps)
        self.assertEqual(scene.tree().node(1)[1:3], ([9, 10], [10009, 1]))

    def test_a_gone_node_is_looked_at_again(self):
        for call in (Put(30, 1), Put(35, 1), Take(30)):
            scene = scene_of(tall_tree(), call)
            go_to(scene, 0, "hold")
            join_unposted(scene)
            steps = at_place(4, "hold", "look") + walk_by(7, 5, 2) + at_place(2, "hold", "write", "free")
            self.assertEqual(turns_of(scene, 0), steps)
            self.assertIs(is_shaped(scene.tree()), True)

    def test_it_never_waits_while_it_holds_and_holds_one_node_at_a_time(self):
        scene = scene_of(grown_tree(), Put(71, 1), Put(72, 2), Put(73, 3), Put(74, 4))
        turn = 0
        while scene.going():
            for number in scene.going():
                held = [place for place in scene.tree().places() if scene.tree().node(place)[6] == number]
                self.assertLessEqual(len(held), 1)
                self.assertEqual(len(held), scene.where(number)[0] in ("make", "write", "free"))
                if held:
                    self.assertEqual(scene.where(number)[1], held[0])
                    self.assertIn(number, scene.ready())
            ready = scene.ready()
            turn += 1
            scene.turn(ready[turn * turn % len(ready)])


class PostTests(unittest.TestCase):
    """Several nodes that are to be posted at once."""

    def parted_twice(self):
        """A scene in which the leaf in place 0 was parted by doer 0, and its right part by doer 1; both are to post."""
        scene = scene_of(one_leaf([10, 20], 2), Put(30, 3), Put(40, 4), Put(50, 5))
        go_to(scene, 0, "free")
        scene.turn(0)
        turns_of(scene, 1)
        go_to(scene, 2, "free")
        scene.turn(2)
        return scene

    def test_nodes_that_no_node_above_has_are_come_to_from_the_left(self):
        scene = self.parted_twice()
        tree = scene.tree()
        self.assertEqual((tree.top(), levels_of(tree), unposted(tree)), (0, [[0, 1, 2]], [1, 2]))
        self.assertIs(is_shaped(tree), True)
        number = scene.begin(Find(50))
        self.assertEqual(turns_of(scene, number), walk_by(0, 1, 2))
        self.assertEqual(scene.answer(number), 5)

    def test_only_one_grows_and_the_other_one_walks_anew(self):
        for first, second, keys, places in ((0, 2, [30, 50], [0, 1, 2]), (2, 0, [30, 50], [0, 1, 2])):
            scene = self.parted_twice()
            go_to(scene, first, "grow")
            go_to(scene, second, "grow")
            self.assertEqual(turns_of(scene, first), [("grow", 0)])
            top = scene.tree().top()
            self.assertEqual(top, 3)
            steps = [("grow", 0)] + walk_by(3) + at_place(3, "hold", "write", "free")
            self.assertEqual(turns_of(scene, second), steps)
            self.assertEqual(scene.tree().node(3)[:3], (1, keys, places))
            self.assertEqual(unposted(scene.tree()), [])

    def test_the_later_part_may_be_posted_first(self):
        scene = self.parted_twice()
        turns_of(scene, 2)
        tree = scene.tree()
        self.assertEqual(tree.node(3)[:3], (1, [50], [0, 2]))
        self.assertEqual((unposted(tree), is_shaped(tree)), ([1], True))
        turns_of(scene, 0)
        self.assertEqual(scene.tree().node(3)[:3], (1, [30, 50], [0, 1, 2]))

    def test_a_post_waits_at_a_held_node_above(self):
        scene = scene_of(even_tree(2, 2), Put(3, 1), Put(13, 2))
        for number in (0, 1):
            go_to(scene, number, "free")
            scene.turn(number)
        go_to(scene, 0, "write")
        scene.turn(1)
        self.assertEqual((scene.where(1), scene.waits(1), scene.ready()), (("look", 2), 2, [0]))
        turns_of(scene, 0)
        steps = at_place(2, "look", "read", "hold", "make", "write", "free")
        self.assertEqual(turns_of(scene, 1), steps + [("top", None), ("look", 2), ("grow", 2)])
        self.assertIs(is_shaped(scene.tree()), True)
        self.assertEqual(unposted(scene.tree()), [])

    def test_the_key_between_is_sought_and_not_the_one_that_was_put(self):
        # While doer 0 is to post 60, the others part the level above between its own key and 60.
        scene = scene_of(one_leaf([50, 60], 2), Put(1, 0), Put(40, 0), Put(30, 0), Put(20, 0))
        go_to(scene, 0, "free")
        scene.turn(0)
        for number in (1, 2, 3):
            turns_of(scene, number)
        self.assertEqual((levels_of(scene.tree()), unposted(scene.tree())), ([[7], [3, 6], [0, 5, 4, 2, 1]], [1]))
        self.assertEqual(scene.tree().node(7)[:3], (2, [40], [3, 6]))
        self.assertEqual(turns_of(scene, 0), walk_by(7, 6) + at_place(6, "hold", "write", "free"))
        self.assertEqual(scene.tree().node(6)[:3], (1, [50, 60], [4, 2, 1]))
        self.assertIs(is_shaped(scene.tree()), True)

    def test_the_moment_is_that_of_the_leaf_and_not_of_a_post(self):
        scene = self.parted_twice()
        turns_of(scene, 0)
        turns_of(scene, 2)
        moments = {row[0]: row[3] for row in scene.history()}
        ends = {row[0]: row[4] for row in scene.history()}
        self.assertEqual(moments[0], 7)
        self.assertEqual(moments[1], ends[1])
        self.assertLess(moments[2], ends[0])
        self.assertEqual([row[5] for row in scene.history()], [None, None, None])


class OrderTests(unittest.TestCase):
    def test_rising_falling_and_mixed_keys(self):
        for most in (2, 3, 4, 5):
            for keys in (list(range(40)), list(range(40, 0, -1)), [key * 17 % 41 for key in range(1, 41)]):
                scene = scene_of(Tree(most), *[Put(key, -key) for key in keys])
                for number in scene.going():
                    turns_of(scene, number)
                    self.assertIs(is_shaped(scene.tree()), True)
                    self.assertEqual(unposted(scene.tree()), [])
                self.assertEqual(pairs_of(scene.tree()), [(key, -key) for key in sorted(keys)])

    def test_inner_pages_of_no_keys_take_a_post(self):
        nodes = [(0, leaf_of([1, 2]), None, None, 0), (1, Inner([], [0]), None, None, 0)]
        scene = scene_of(tree_of(2, 1, 0, nodes), Put(3, 3))
        turns_of(scene, 0)
        self.assertEqual(scene.tree().node(1)[:3], (1, [3], [0, 2]))

    def test_a_put_leaves_other_nodes_as_they_are(self):
        tree = tall_tree()
        scene = scene_of(tree, Put(11, 1))
        turns_of(scene, 0)
        for place in tree.places():
            if place != 1:
                self.assertEqual(scene.tree().node(place), tree.node(place))

    def test_goods_of_other_keys_stay(self):
        scene = scene_of(tree_of(2, 0, 0, [(0, Leaf([1, 2], [7, 8]), None, None, 0)]), Put(3, 9))
        turns_of(scene, 0)
        self.assertEqual(pairs_of(scene.tree()), [(1, 7), (2, 8), (3, 9)])


if __name__ == "__main__":
    unittest.main()
