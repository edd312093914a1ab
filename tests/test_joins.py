"""Joining and lowering the top: points 50, 54 and 71 to 74, and the interface of nolocktree/joins.py."""

import unittest

from nolocktree.calls import Call
from nolocktree.errors import Going, NoKey, NoLevel, Waits
from nolocktree.finds import Find
from nolocktree.joins import Join, Sink
from nolocktree.pages import Inner, Leaf
from nolocktree.puts import Put
from nolocktree.shapes import is_shaped, levels_of, pairs_of, unposted
from nolocktree.takes import Take
from nolocktree.trees import Tree, tree_of
from tests.things import (
    GREATEST, LEAST, Checks, at_place, even_tree, go_to, leaf_of, no_keys, no_numbers, one_leaf, run_calls, scene_of,
    tall_tree, told_scene, told_tree, tower, turns_of, walk_by)


def joined_steps(inner, left, right):
    """The steps of a join from its first hold on, where both nodes are joined."""
    return (at_place(inner, "hold") + at_place(left, "hold") + at_place(right, "hold") + at_place(left, "write")
            + at_place(inner, "write") + at_place(right, "go") + at_place(left, "free") + at_place(inner, "free"))


def freed_steps(inner, left, right):
    """The steps of a join from its first hold on, where they are not."""
    return [("hold", inner), ("hold", left), ("hold", right), ("free", right), ("free", left), ("free", inner)]


def two_leaves(left, right, most, version=0):
    """A tree of two leaves with these keys, parted at 100, and a top in place 2."""
    return tree_of(most, 2, 0, [
        (0, leaf_of(left), 100, 1, version), (0, leaf_of(right), None, None, version + 1),
        (1, Inner([100], [0, 1]), None, None, version + 2)])


class MakingTests(Checks, unittest.TestCase):
    def test_is_a_call_and_tells_itself(self):
        for key in (LEAST, 0, GREATEST):
            for level in (0, 1, 59, 60):
                call = Join(key, level)
                self.assertIsInstance(call, Call)
                self.assertEqual(call.told(), ("join", key, level))
                self.assertIs(type(call.told()), tuple)

    def test_refuses_what_is_no_key_and_then_what_is_no_level(self):
        for thing in no_keys():
            self.check_refused(NoKey, "found", thing, Join, thing, 1)
            self.check_refused(NoKey, "found", thing, Join, thing, -1)
        for thing in no_numbers() + [-1, 61, 10 ** 29]:
            self.check_refused(NoLevel, "found", thing, Join, 1, thing)

    def test_a_sink_is_a_call_and_tells_itself(self):
        self.assertIsInstance(Sink(), Call)
        self.assertEqual(Sink().told(), ("sink",))
        self.assertIs(type(Sink().told()), tuple)

    def test_neither_is_the_other_one(self):
        self.assertNotIsInstance(Sink(), Join)
        self.assertNotIsInstance(Join(1, 0), Sink)


class JoinedTests(unittest.TestCase):
    """Joins alone that end with True."""

    def test_leaves_step_by_step(self):
        scene = scene_of(two_leaves([10, 20], [100, 110], 4), Join(15, 0))
        left = (0, [10, 20], [10010, 10020], 100, 1, 0, None, False)
        right = (0, [100, 110], [10100, 10110], None, None, 1, None, False)
        inner = (1, [100], [0, 1], None, None, 2, None, False)
        steps = walk_by(2) + joined_steps(2, 0, 1)
        held = {0: left[:6] + (0, False), 1: right[:6] + (0, False), 2: inner[:6] + (0, False)}
        both = (0, [10, 20, 100, 110], [10010, 10020, 10100, 10110], None, None)
        gone = right[:5] + (2, None, True)
        bare = (1, [], [0], None, None)
        nodes = [(left, right, inner)] * 4 + [
            (left, right, held[2]), (held[0], right, held[2]), (held[0], held[1], held[2]),
            (both + (0, 0, False), held[1], held[2]), (both + (0, 0, False), held[1], bare + (2, 0, False)),
            (both + (0, 0, False), gone, bare + (2, 0, False)),
            (both + (1, None, False), gone, bare + (2, 0, False))]
        for now, (step, told) in enumerate(zip(steps, nodes)):
            self.assertEqual((scene.now(), scene.where(0), scene.waits(0)), (now, step, None))
            self.assertEqual(tuple(scene.tree().node(place) for place in (0, 1, 2)), told)
            self.assertEqual(scene.turn(0), step)
        self.assertEqual(scene.where(0), ("ended", None))
        self.assertEqual(scene.history(), [(0, ("join", 15, 0), 0, 11, 11, True)])
        tree = scene.tree()
        self.assertEqual(tree.node(0), both + (1, None, False))
        self.assertEqual(tree.node(2), bare + (3, None, False))
        self.assertEqual((tree.places(), tree.rounds().free(), tree.rounds().lap()), ([0, 2], [1], 1))
        self.assertIs(is_shaped(tree), True)

    def test_at_each_level(self):
        scene = scene_of(even_tree(4, 3), Join(0, 1), Join(45, 1), Join(0, 2))
        self.assertEqual(turns_of(scene, 0), walk_by(14, 12) + joined_steps(12, 8, 9))
        self.assertEqual(turns_of(scene, 1), walk_by(14, 13) + joined_steps(13, 10, 11))
        self.assertEqual(turns_of(scene, 2), walk_by(14) + joined_steps(14, 12, 13))
        tree = scene.tree()
        self.assertEqual(tree.node(8)[:5], (1, [10, 20, 30], [0, 1, 2, 3], 40, 10))
        self.assertEqual(tree.node(12)[:5], (2, [40], [8, 10], None, None))
        self.assertEqual(tree.node(14)[:5], (3, [], [12], None, None))
        self.assertEqual([row[5] for row in scene.history()], [True, True, True])
        self.assertIs(is_shaped(tree), True)
        self.assertEqual(pairs_of(tree), pairs_of(even_tree(4, 3)))

    def test_the_left_one_is_the_child_for_the_key(self):
        nodes = [(0, leaf_of([at * 10]), (at + 1) * 10, at + 1, 0) for at in range(3)]
        nodes += [(0, leaf_of([30]), None, None, 0), (1, Inner([10, 20, 30], [0, 1, 2, 3]), None, None, 0)]
        for key, left in ((LEAST, 0), (9, 0), (10, 1), (19, 1), (20, 2), (29, 2)):
            scene = scene_of(tree_of(3, 4, 0, nodes), Join(key, 0))
            self.assertEqual(turns_of(scene, 0), walk_by(4) + joined_steps(4, left, left + 1))
            keys = [one for one in (10, 20, 30) if one != left * 10 + 10]
            self.assertEqual(scene.tree().node(4)[1], keys)
            self.assertEqual(scene.tree().node(left)[1], [left * 10, left * 10 + 10])

    def test_the_high_and_right_of_the_right_one_are_taken_over(self):
        scene = scene_of(even_tree(3, 5), Join(0, 0))
        turns_of(scene, 0)
        self.assertEqual(scene.tree().node(0)[:5], (0, [0, 5, 10, 15], [10000, 10005, 10010, 10015], 20, 2))
        self.assertEqual(scene.tree().node(4)[:5], (1, [], [0], 20, 5))

    def test_led_to_the_right_at_the_level_above(self):
        scene = scene_of(tall_tree(), Join(45, 0))
        self.assertEqual(turns_of(scene, 0), walk_by(7, 5, 6) + joined_steps(6, 3, 8))
        self.assertEqual(scene.tree().node(3)[:5], (0, [40, 49, 50], [50, 59, 60], 60, 10))

    def test_both_just_fit(self):
        for most in (2, 3, 4, 5):
            for many in range(most + 1):
                left, right = list(range(many)), list(range(100, 100 + most - many))
                scene = scene_of(two_leaves(left, right, most), Join(0, 0))
                self.assertEqual(turns_of(scene, 0), walk_by(2) + joined_steps(2, 0, 1))
                self.assertEqual((scene.answer(0), scene.tree().node(0)[1]), (True, left + right))

    def test_a_join_changes_no_pairs_and_no_other_nodes(self):
        tree = even_tree(3, 5)
        scene = scene_of(tree, Join(25, 0))
        turns_of(scene, 0)
        self.assertEqual(pairs_of(scene.tree()), pairs_of(tree))
        for place in (0, 1, 4, 6):
            self.assertEqual(scene.tree().node(place), tree.node(place))

    def test_what_was_joined_may_be_parted_again_in_the_same_place(self):
        scene = scene_of(two_leaves([1, 2], [], 2, 7))
        self.assertEqual(run_calls(scene, Join(0, 0), Put(3, 3)), [True, None])
        tree = scene.tree()
        # The version of place 1 was 8 ahead of the join, and is one greater since it went.
        self.assertEqual(tree.node(1), (0, [3], [3], None, None, 9, None, False))
        self.assertEqual(tree.node(2)[1:3], ([3], [0, 1]))
        self.assertEqual((tree.places(), tree.rounds().lap()), ([0, 1, 2], 1))


class FalseTests(unittest.TestCase):
    """Joins alone that end with False; none of them changes anything in the tree, versions neither."""

    def check_false(self, tree, call, steps):
        """That the call takes these steps, ends with False, and leaves all nodes as they were."""
        scene = scene_of(tree, call)
        for now, step in enumerate(steps):
            self.assertEqual((scene.now(), scene.where(0)), (now, step))
            self.assertEqual(scene.turn(0), step)
        many = len(steps)
        self.assertEqual(scene.where(0), ("ended", None))
        self.assertEqual(scene.history(), [(0, call.told(), 0, many, many, False)])
        self.assertIs(scene.answer(0), False)
        self.assertEqual(told_tree(scene.tree()), told_tree(tree))

    def test_of_a_level_above_the_tree(self):
        for level in (0, 1, 60):
            self.check_false(Tree(2), Join(1, level), [("top", None), ("look", 0)])
        for level in (1, 2, 60):
            self.check_false(even_tree(2), Join(1, level), [("top", None), ("look", 2)])
        self.check_false(even_tree(3), Join(1, 2), [("top", None), ("look", 6)])

    def test_no_place_beyond(self):
        self.check_false(even_tree(2, 5), Join(10, 0), walk_by(2))
        self.check_false(even_tree(3, 5), Join(19, 0), walk_by(6, 4))
        self.check_false(even_tree(3, 5), Join(20, 1), walk_by(6))
        self.check_false(tower(1), Join(0, 0), walk_by(1))
        self.check_false(tall_tree(), Join(60, 0), walk_by(7, 9))
        self.check_false(tall_tree(), Join(29, 0), walk_by(7, 5))

    def test_another_one_stands_between(self):
        self.check_false(tall_tree(5), Join(0, 1), walk_by(7) + freed_steps(7, 5, 9))
        nodes = [(0, leaf_of([]), 10, 2, 0), (0, leaf_of([]), None, None, 0), (0, leaf_of([]), 20, 1, 0),
                 (1, Inner([20], [0, 1]), None, None, 0)]
        self.check_false(tree_of(5, 3, 0, nodes), Join(15, 0), walk_by(3) + freed_steps(3, 0, 1))

    def test_both_just_do_not_fit(self):
        for most in (2, 3, 4, 5):
            for many in range(1, most + 1):
                tree = two_leaves(list(range(many)), list(range(100, 101 + most - many)), most)
                self.check_false(tree, Join(0, 0), walk_by(2) + freed_steps(2, 0, 1))

    def test_inner_nodes_need_room_for_the_key_between(self):
        self.check_false(even_tree(3, 2), Join(0, 1), walk_by(6) + freed_steps(6, 4, 5))
        scene = scene_of(even_tree(3, 3), Join(0, 1))
        self.assertEqual(turns_of(scene, 0), walk_by(6) + joined_steps(6, 4, 5))
        self.assertIs(scene.answer(0), True)


class WaitTests(Checks, unittest.TestCase):
    """A join beside others."""

    def test_it_waits_while_it_holds_until_the_left_one_is_freed(self):
        scene = scene_of(two_leaves([10], [100], 3), Join(0, 0), Put(11, 1), Find(11))
        go_to(scene, 1, "write")
        turns_of(scene, 0, 4)
        self.assertEqual((scene.where(0), scene.waits(0), scene.ready()), (("hold", 0), 0, [1, 2]))
        self.check_fields(Waits, {"doer": 0, "place": 0}, scene.turn, 0)
        self.assertEqual(scene.tree().node(2)[6], 0)
        scene.turn(2)
        self.assertEqual((scene.where(2), scene.waits(2), scene.ready()), (("look", 2), 2, [1]))
        turns_of(scene, 1)
        self.assertEqual((scene.waits(0), scene.ready()), (None, [0]))
        # The left one is held whatever its version is by now, and what was put is joined with the others.
        self.assertEqual(turns_of(scene, 0), joined_steps(2, 0, 1)[1:])
        self.assertEqual(scene.tree().node(0)[1], [10, 11, 100])
        self.assertEqual(turns_of(scene, 2), at_place(2, "look", "read") + at_place(0, "look", "read"))
        self.assertEqual(scene.answer(2), 1)

    def test_it_waits_while_it_holds_until_the_right_one_is_freed(self):
        scene = scene_of(two_leaves([10], [100], 3), Join(0, 0), Take(100))
        go_to(scene, 1, "free")
        turns_of(scene, 0, 5)
        self.assertEqual((scene.where(0), scene.waits(0), scene.ready()), (("hold", 1), 1, [1]))
        self.assertEqual([scene.tree().node(place)[6] for place in (0, 1, 2)], [0, 1, 0])
        turns_of(scene, 1)
        self.assertEqual(turns_of(scene, 0), joined_steps(2, 0, 1)[2:])
        self.assertEqual(pairs_of(scene.tree()), [(10, 10010)])

    def test_it_is_seen_when_the_right_one_is_held_whether_both_fit(self):
        for call, steps in ((Put(101, 1), freed_steps(2, 0, 1)), (Take(100), joined_steps(2, 0, 1))):
            keys = [100, 110] if steps == joined_steps(2, 0, 1) else [100]
            scene = scene_of(two_leaves([10], keys, 2), Join(0, 0), call)
            go_to(scene, 1, "hold")
            turns_of(scene, 0, 5)
            turns_of(scene, 1)
            self.assertEqual(turns_of(scene, 0), steps[2:])

    def test_a_left_one_that_was_parted_ahead_is_not_joined_with_the_one_beyond_its_new_neighbour(self):
        scene = scene_of(two_leaves([10, 20], [], 2), Join(0, 0), Put(30, 3))
        go_to(scene, 1, "free")
        turns_of(scene, 0, 4)
        scene.turn(1)
        self.assertEqual(unposted(scene.tree()), [3])
        self.assertEqual(turns_of(scene, 0), freed_steps(2, 0, 1)[1:])
        self.assertIs(scene.answer(0), False)
        turns_of(scene, 1)
        self.assertEqual(scene.tree().node(2)[1:3], ([30, 100], [0, 3, 1]))

    def test_an_inner_node_that_changed_ahead_of_the_hold_is_looked_at_again(self):
        scene = scene_of(two_leaves([10, 20], [], 2), Join(0, 0), Put(30, 3))
        go_to(scene, 0, "hold")
        turns_of(scene, 1)
        self.assertEqual(turns_of(scene, 0), at_place(2, "hold", "look", "read") + freed_steps(2, 0, 3))
        scene = scene_of(two_leaves([10], [], 2), Join(0, 0), Join(0, 0))
        go_to(scene, 0, "hold")
        turns_of(scene, 1)
        self.assertEqual(turns_of(scene, 0), at_place(2, "hold", "look", "read"))
        self.assertEqual([row[3:] for row in scene.history()], [(17, 17, False), (14, 14, True)])

    def test_an_inner_node_that_is_held_ahead_of_the_hold_is_waited_for(self):
        scene = scene_of(two_leaves([10], [], 2), Join(0, 0), Join(0, 0))
        go_to(scene, 0, "hold")
        turns_of(scene, 1, 4)
        self.assertEqual((scene.where(0), scene.waits(0), scene.ready()), (("hold", 2), 2, [1]))
        self.check_fields(Waits, {"doer": 0, "place": 2}, scene.turn, 0)

    def test_held_and_freed_and_not_written_it_is_the_same(self):
        scene = scene_of(two_leaves([10, 20], [100], 2), Join(0, 0), Join(0, 0))
        go_to(scene, 0, "hold")
        turns_of(scene, 1)
        self.assertEqual(turns_of(scene, 0), freed_steps(2, 0, 1))

    def test_an_inner_node_that_is_gone_leads_to_the_top(self):
        for word, steps in (("look", []), ("read", ["read"]), ("hold", ["hold"])):
            scene = scene_of(even_tree(3, 3), Join(25, 0), Join(0, 1))
            go_to(scene, 0, "look")
            turns_of(scene, 0, {"look": 2, "read": 3, "hold": 4}[word])
            self.assertEqual(scene.where(0), (word, 5))
            turns_of(scene, 1)
            self.assertEqual((scene.answer(1), scene.tree().node(5)[7]), (True, True))
            again = [(one, 5) for one in steps + ["look"]] + walk_by(6, 4) + freed_steps(4, 2, 3)
            self.assertEqual(turns_of(scene, 0), again)

    def test_the_top_may_sink_beneath_it(self):
        scene = scene_of(tower(1), Join(0, 0), Sink())
        go_to(scene, 0, "read")
        turns_of(scene, 1)
        self.assertEqual(turns_of(scene, 0), [("read", 1), ("look", 1), ("top", None), ("look", 0)])
        self.assertEqual([row[5] for row in scene.history()], [False, True])

    def test_no_ring_where_joins_of_two_levels_go_on(self):
        tree = even_tree(3, 5)
        scene = scene_of(tree, Join(0, 1), Join(25, 0), Join(0, 0))
        turns_of(scene, 1, 7)
        self.assertEqual((scene.where(1), [scene.tree().node(place)[6] for place in (5, 2)]), (("hold", 3), [1, 1]))
        turns_of(scene, 2, 6)
        turns_of(scene, 0, 4)
        self.assertEqual((scene.where(0), scene.waits(0), scene.ready()), (("hold", 4), 4, [1, 2]))
        turns_of(scene, 2)
        scene.turn(0)
        self.assertEqual((scene.where(0), scene.waits(0), scene.ready()), (("hold", 5), 5, [1]))
        turns_of(scene, 1)
        turns_of(scene, 0)
        self.assertEqual([row[5] for row in scene.history()], [True, True, True])
        self.assertEqual(levels_of(scene.tree()), [[6], [4], [0, 2]])
        self.assertEqual(pairs_of(scene.tree()), pairs_of(tree))

    def test_no_answer_ahead_of_the_end(self):
        scene = scene_of(two_leaves([10], [100], 3), Join(0, 0))
        turns_of(scene, 0, 10)
        self.assertEqual(scene.where(0), ("free", 2))
        self.check_fields(Going, {"doer": 0}, scene.answer, 0)
        self.assertEqual(scene.history(), [])


class PlaceTests(unittest.TestCase):
    """Places of nodes that went."""

    def test_kept_while_a_call_goes_on_that_went_on_then(self):
        scene = scene_of(two_leaves([10], [], 2, 4), Find(1), Join(0, 0), Find(2))
        go_to(scene, 1, "go")
        later = scene.begin(Find(3))
        self.assertEqual(scene.tree().rounds().kept(), [])
        scene.turn(1)
        self.assertEqual(scene.tree().node(1), (0, [], [], None, None, 6, None, True))
        self.assertEqual(scene.tree().rounds().kept(), [(1, 0)])
        latest = scene.begin(Find(4))
        for number in (1, 0, later):
            turns_of(scene, number)
            self.assertEqual((scene.tree().rounds().kept(), scene.tree().rounds().free()), ([(1, 0)], []))
        turns_of(scene, 2)
        self.assertEqual((scene.tree().rounds().kept(), scene.tree().rounds().free()), ([], [1]))
        turns_of(scene, latest)

    def test_not_given_again_while_it_is_kept(self):
        scene = scene_of(two_leaves([10, 20], [], 2), Find(100), Join(0, 0))
        turns_of(scene, 0, 3)
        self.assertEqual(scene.where(0), ("look", 1))
        turns_of(scene, 1)
        run_calls(scene, Put(30, 3))
        self.assertEqual((scene.tree().places(), levels_of(scene.tree())), ([0, 2, 3], [[2], [0, 3]]))
        # The find looks at the place of the one that went, and finds it gone.
        self.assertEqual(turns_of(scene, 0), [("look", 1)] + walk_by(2, 3))
        run_calls(scene, Put(15, 3))
        self.assertEqual((scene.tree().places(), levels_of(scene.tree())), ([0, 1, 2, 3], [[2], [0, 1, 3]]))

    def test_the_least_free_place_is_given_first(self):
        scene = scene_of(even_tree(3, 5))
        self.assertEqual(run_calls(scene, Join(0, 0), Join(20, 0), Join(0, 1)), [True, True, True])
        self.assertEqual(scene.tree().rounds().free(), [1, 3, 5])
        run_calls(scene, Put(1, 1), Put(2, 1), Put(3, 1), Put(4, 1))
        self.assertEqual(scene.tree().rounds().free(), [3, 5])
        self.assertEqual(levels_of(scene.tree()), [[6], [4], [0, 1, 2]])
        self.assertEqual(scene.tree().node(1)[5], 1)

    def test_what_is_told_of_a_place_that_is_kept(self):
        scene = scene_of(two_leaves([], [], 2), Find(0), Join(0, 0))
        turns_of(scene, 1)
        self.assertEqual(scene.tree().places(), [0, 2])
        self.assertIs(scene.tree().node(1)[7], True)
        self.assertIs(scene.tree().page(1).same(Leaf([], [])), True)


class SinkTests(Checks, unittest.TestCase):
    def check_false(self, tree, steps):
        """That a sink alone takes these steps, ends with False, and changes nothing."""
        scene = scene_of(tree, Sink())
        self.assertEqual(turns_of(scene, 0), steps)
        self.assertEqual(scene.history(), [(0, ("sink",), 0, len(steps), len(steps), False)])
        self.assertIs(scene.answer(0), False)
        self.assertEqual(told_tree(scene.tree()), told_tree(tree))

    def test_a_tree_of_level_nought(self):
        for tree in (Tree(2), one_leaf([5], 3)):
            self.check_false(tree, [("top", None), ("look", 0)])

    def test_a_top_with_a_key(self):
        self.check_false(even_tree(2), walk_by(2))
        self.check_false(even_tree(4), walk_by(14))

    def test_a_top_with_a_right(self):
        nodes = [(0, leaf_of([]), 10, 1, 0), (0, leaf_of([]), None, None, 0), (1, Inner([], [0]), 10, 3, 0),
                 (1, Inner([], [1]), None, None, 0)]
        self.check_false(tree_of(2, 2, 0, nodes), walk_by(2))

    def test_step_by_step(self):
        scene = scene_of(tower(2), Sink())
        steps = walk_by(2) + [("hold", 2), ("go", 2)]
        tops = [2] * 5
        holders = [None] * 4 + [0]
        for step, top, holder in zip(steps, tops, holders):
            self.assertEqual((scene.where(0), scene.tree().top()), (step, top))
            self.assertEqual(scene.tree().node(2), (2, [], [1], None, None, 0, holder, False))
            self.assertEqual(scene.turn(0), step)
        self.assertEqual(scene.where(0), ("ended", None))
        self.assertEqual(scene.history(), [(0, ("sink",), 0, 5, 5, True)])
        tree = scene.tree()
        self.assertEqual((tree.top(), tree.places(), tree.rounds().free(), tree.rounds().lap()), (1, [0, 1], [2], 1))
        self.assertEqual(levels_of(tree), [[1], [0]])
        self.assertIs(is_shaped(tree), True)

    def test_down_to_a_leaf_and_no_further(self):
        scene = scene_of(tower(3))
        self.assertEqual(run_calls(scene, Sink(), Sink(), Sink(), Sink()), [True, True, True, False])
        self.assertEqual((scene.tree().top(), scene.tree().places()), (0, [0]))
        self.assertEqual(pairs_of(scene.tree()), [(5, 10005)])

    def test_a_child_with_a_right_becomes_the_top(self):
        nodes = [(0, leaf_of([1]), 10, 1, 0), (0, leaf_of([10]), None, None, 0), (1, Inner([], [0]), None, None, 0)]
        scene = scene_of(tree_of(2, 2, 0, nodes))
        self.assertEqual(run_calls(scene, Sink(), Sink(), Find(10)), [True, False, 10010])
        self.assertEqual(levels_of(scene.tree()), [[0, 1]])

    def test_two_sinks_of_one_top(self):
        scene = scene_of(tower(2), Sink(), Sink())
        go_to(scene, 0, "hold")
        go_to(scene, 1, "go")
        self.assertEqual((scene.waits(0), scene.ready()), (2, [1]))
        self.check_fields(Waits, {"doer": 0, "place": 2}, scene.turn, 0)
        turns_of(scene, 1)
        # It is gone: the other one comes from the top again, straight from its hold.
        self.assertEqual(turns_of(scene, 0), [("hold", 2)] + walk_by(1) + [("hold", 1), ("go", 1)])
        self.assertEqual([row[5] for row in scene.history()], [True, True])
        self.assertEqual(scene.tree().places(), [0])

    def test_a_look_and_a_read_of_a_gone_top(self):
        for many, steps in ((1, [("look", 1)]), (2, [("read", 1), ("look", 1)])):
            scene = scene_of(tower(1), Sink(), Sink())
            turns_of(scene, 0, many)
            turns_of(scene, 1)
            self.assertEqual(turns_of(scene, 0), steps + [("top", None), ("look", 0)])
            self.assertIs(scene.answer(0), False)

    def test_a_read_of_a_held_top_looks_again(self):
        scene = scene_of(tower(1), Sink(), Sink())
        turns_of(scene, 0, 2)
        go_to(scene, 1, "go")
        self.assertEqual(turns_of(scene, 0, 1), [("read", 1)])
        self.assertEqual((scene.where(0), scene.waits(0)), (("look", 1), 1))

    def test_a_top_that_changed_ahead_of_the_hold(self):
        nodes = [(0, leaf_of([1, 2]), None, None, 0), (1, Inner([], [0]), None, None, 0)]
        scene = scene_of(tree_of(2, 1, 0, nodes), Sink(), Put(3, 3))
        go_to(scene, 0, "hold")
        turns_of(scene, 1)
        self.assertEqual(turns_of(scene, 0), [("hold", 1)] + walk_by(1))
        self.assertIs(scene.answer(0), False)

    def test_one_that_is_the_top_no_more_at_its_go(self):
        # The sink notes place 2 as the top; then a new top is set above it, and all are joined but for that one.
        nodes = [(0, leaf_of([1, 2]), 10, 1, 0), (0, leaf_of([]), 20, 3, 0),
                 (1, Inner([10, 20], [0, 1, 3]), None, None, 0), (0, leaf_of([]), None, None, 0)]
        scene = scene_of(tree_of(2, 2, 0, nodes), Sink())
        scene.turn(0)
        answers = run_calls(
            scene, Put(3, 3), Take(1), Take(2), Take(3), Join(0, 0), Join(15, 0), Join(0, 1), Join(0, 0))
        self.assertEqual(answers[4:], [True, True, True, True])
        tree = scene.tree()
        self.assertEqual(levels_of(tree), [[6], [2], [0]])
        self.assertEqual([tree.node(place)[1] for place in (6, 2, 0)], [[], [], []])
        version = tree.node(2)[5]
        self.assertEqual(turns_of(scene, 0), at_place(2, "look", "read", "hold", "go"))
        self.assertIs(scene.answer(0), False)
        self.assertEqual(scene.tree().node(2), (1, [], [0], None, None, version, None, False))
        self.assertEqual(scene.tree().top(), 6)
        self.assertIs(is_shaped(scene.tree()), True)

    def posting(self, many):
        """A scene in which a put has parted the only leaf beneath the top and done so many steps of its post."""
        nodes = [(0, leaf_of([1, 2]), None, None, 0), (1, Inner([], [0]), None, None, 0)]
        scene = scene_of(tree_of(2, 1, 0, nodes), Put(3, 3), Sink())
        go_to(scene, 0, "free")
        scene.turn(0)
        turns_of(scene, 0, many)
        return scene

    def test_a_post_grows_the_tree_anew_behind_a_sink(self):
        for many in (0, 1, 2, 3):
            scene = self.posting(many)
            turns_of(scene, 1)
            self.assertEqual((scene.answer(1), scene.tree().top()), (True, 0))
            turns_of(scene, 0)
            self.assertEqual((levels_of(scene.tree()), unposted(scene.tree())), ([[3], [0, 2]], []))
            self.assertIs(is_shaped(scene.tree()), True)

    def test_a_sink_behind_a_post_finds_a_key(self):
        scene = self.posting(4)
        self.assertEqual(scene.where(0), ("write", 1))
        turns_of(scene, 0)
        self.assertEqual((turns_of(scene, 1), scene.answer(1)), (walk_by(1), False))

    def test_the_place_of_the_old_top_is_kept_and_given_again(self):
        nodes = [(0, leaf_of([1, 2]), None, None, 0), (1, Inner([], [0]), None, None, 5)]
        scene = scene_of(tree_of(2, 1, 0, nodes), Find(1), Sink())
        turns_of(scene, 0, 1)
        turns_of(scene, 1)
        self.assertEqual((scene.tree().rounds().kept(), scene.tree().node(1)[5:]), ([(1, 0)], (6, None, True)))
        self.assertEqual(turns_of(scene, 0), [("look", 1)] + walk_by(0))
        self.assertEqual(scene.tree().rounds().free(), [1])
        run_calls(scene, Put(3, 3))
        self.assertEqual(scene.tree().node(1)[:6], (0, [3], [3], None, None, 6))


class OtherTests(unittest.TestCase):
    def test_joins_and_sinks_undo_what_puts_have_done(self):
        for most in (2, 3, 4, 5):
            scene = scene_of(Tree(most))
            run_calls(scene, *[Put(key, key) for key in range(20)])
            tree = scene.tree()
            scene = scene_of(tree)
            run_calls(scene, *[Take(key) for key in range(20)])
            tree = scene.tree()
            while len(tree.places()) > 1:
                before = len(tree.places())
                for level in range(tree.node(tree.top())[0]):
                    scene = scene_of(tree)
                    run_calls(scene, *[Join(key, level) for key in range(20)], Sink())
                    tree = scene.tree()
                    self.assertIs(is_shaped(tree), True)
                self.assertLess(len(tree.places()), before)
            self.assertEqual((tree.top(), pairs_of(tree)), (tree.places()[0], []))

    def test_the_same_call_in_two_scenes(self):
        call, sink = Join(0, 0), Sink()
        first, second = scene_of(two_leaves([], [], 2), call, sink), scene_of(two_leaves([], [], 2), call, sink)
        before = told_scene(second)
        turns_of(first, 0)
        turns_of(first, 1)
        self.assertEqual(told_scene(second), before)
        self.assertEqual((call.told(), sink.told()), (("join", 0, 0), ("sink",)))


if __name__ == "__main__":
    unittest.main()
