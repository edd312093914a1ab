"""Scenes: points 51 to 53 and 56 to 59, and the interface of nolocktree/scenes.py."""

import unittest

from nolocktree.calls import Call
from nolocktree.errors import Ended, Going, Held, NoCall, NoDoer, NoShape, NoTree, NoWeaving, TooMany, Waits
from nolocktree.finds import Find
from nolocktree.joins import Join, Sink
from nolocktree.pages import Leaf
from nolocktree.puts import Put
from nolocktree.scenes import Scene
from nolocktree.shapes import pairs_of
from nolocktree.stretches import Parts, Whole
from nolocktree.takes import Take
from nolocktree.trees import Tree, tree_of
from tests.things import (
    Checks, deep, even_tree, go_to, leaf_of, no_numbers, odd_things, one_leaf, refusal, scene_of, tall_tree,
    told_rounds, told_scene, told_tree, tower, turns_of)


def woven_scene():
    """A scene amid its run: doer 0 has ended, 1 holds the leaf, 2 waits at it, 3 has just begun."""
    tree = tree_of(2, 0, 4, [(0, Leaf([5, 9], [6, 10]), None, None, 3)])
    scene = scene_of(tree, Find(5), Put(7, 8), Take(9))
    turns_of(scene, 0)
    go_to(scene, 2, "hold")
    go_to(scene, 1, "write")
    scene.begin(Find(9))
    return scene


class MakingTests(Checks, unittest.TestCase):
    def test_a_new_scene(self):
        for tree in (Tree(2), tall_tree(), even_tree(4), tower(20)):
            scene = Scene(tree)
            self.assertEqual((scene.now(), scene.going(), scene.ready(), scene.history(), scene.turns()),
                             (0, [], [], [], 0))
            self.assertEqual(told_tree(scene.tree()), told_tree(tree))

    def test_it_keeps_a_twin(self):
        tree = Tree(2)
        scene = Scene(tree)
        before = told_tree(tree)
        tree.enter(3)
        tree.hold(0, 3)
        self.assertEqual(told_tree(scene.tree()), before)
        number = scene.begin(Put(1, 2))
        turns_of(scene, number)
        self.assertEqual(pairs_of(tree), [])
        self.assertEqual(pairs_of(scene.tree()), [(1, 2)])

    def test_refuses_what_is_no_tree(self):
        for thing in no_numbers() + [0, 1, 10 ** 29]:
            if not isinstance(thing, Tree):
                self.check_refused(NoTree, "found", thing, Scene, thing)

    def test_then_a_held_node_the_least_place_first(self):
        tree = tall_tree()
        tree.hold(8, 5)
        self.check_fields(Held, {"place": 8, "holder": 5}, Scene, tree)
        tree.hold(3, 4)
        tree.hold(9, 0)
        self.check_fields(Held, {"place": 3, "holder": 4}, Scene, tree)
        tree.enter(1)
        tree.made(0, leaf_of([]), None, None)
        before = told_tree(tree)
        self.check_fields(Held, {"place": 3, "holder": 4}, Scene, tree)
        self.assertEqual(told_tree(tree), before)

    def test_a_node_held_by_the_doer_nought_counts(self):
        tree = Tree(2)
        tree.hold(0, 0)
        self.check_fields(Held, {"place": 0, "holder": 0}, Scene, tree)

    def test_then_a_call_that_goes_on_the_first_one(self):
        tree = tall_tree()
        for number in (7, 0, 3):
            tree.enter(number)
        self.check_fields(Going, {"doer": 7}, Scene, tree)
        tree.made(0, leaf_of([]), None, None)
        self.check_fields(Going, {"doer": 7}, Scene, tree)
        tree.leave(7)
        before = told_tree(tree)
        self.check_fields(Going, {"doer": 0}, Scene, tree)
        self.assertEqual(told_tree(tree), before)

    def test_then_one_that_is_not_shaped(self):
        tree = tall_tree()
        tree.made(0, leaf_of([]), None, None)
        self.check_refused(NoShape, "found", tree, Scene, tree)

    def test_a_top_above_level_twenty(self):
        for level in (21, 60):
            tree = tower(level)
            self.check_refused(NoShape, "found", tree, Scene, tree)

    def test_what_a_scene_tells_may_make_another_one(self):
        scene = scene_of(Tree(2), Put(1, 2))
        self.check_fields(Going, {"doer": 0}, Scene, scene.tree())
        go_to(scene, 0, "write")
        self.check_fields(Held, {"place": 0, "holder": 0}, Scene, scene.tree())
        turns_of(scene, 0)
        other = Scene(scene.tree())
        self.assertEqual((other.now(), other.history(), pairs_of(other.tree())), (0, [], [(1, 2)]))


class BeginTests(Checks, unittest.TestCase):
    def test_numbers_rise_from_nought(self):
        scene = Scene(Tree(2))
        for number in range(60):
            call = (Find(1), Put(1, 2), Take(1))[number % 3]
            self.assertEqual(scene.begin(call), number)
            self.assertEqual(scene.where(number), ("top", None))
            self.assertEqual(scene.going(), list(range(number + 1)))

    def test_numbers_of_ended_calls_are_not_given_again(self):
        scene = scene_of(Tree(2), Find(1))
        turns_of(scene, 0)
        self.assertEqual(scene.begin(Find(2)), 1)

    def test_a_call_enters_and_leaves(self):
        tree = tree_of(2, 0, 7, [(0, leaf_of([]), None, None, 0)])
        scene = scene_of(tree, Find(1), Find(2))
        self.assertEqual(scene.tree().rounds().going(), [(0, 7), (1, 7)])
        turns_of(scene, 0, 2)
        self.assertEqual(scene.tree().rounds().going(), [(0, 7), (1, 7)])
        scene.turn(0)
        self.assertEqual(scene.tree().rounds().going(), [(1, 7)])

    def test_a_call_may_begin_twice(self):
        call = Find(1)
        scene = scene_of(Tree(2), call, call)
        other = scene_of(Tree(2), call)
        turns_of(scene, 0)
        self.assertEqual((scene.going(), other.going()), ([1], [0]))
        self.assertEqual(scene.where(1), ("top", None))

    def test_beginning_is_no_step(self):
        scene = scene_of(Tree(2), Find(1), Find(2))
        self.assertEqual(scene.now(), 0)

    def test_refuses_what_is_no_call(self):
        scene = Scene(Tree(2))
        for thing in no_numbers() + [0, ("find", 1), ["find", 1]]:
            if not isinstance(thing, Call):
                self.check_refused(NoCall, "found", thing, scene.begin, thing)
        self.assertEqual(told_scene(scene), told_scene(Scene(Tree(2))))

    def test_then_the_sixty_first_one(self):
        scene = scene_of(Tree(2), *[Find(1)] * 60)
        turns_of(scene, 4)
        before = told_scene(scene)
        self.check_counted(TooMany, 61, scene.begin, Find(1))
        self.check_refused(NoCall, "found", "call", scene.begin, "call")
        self.assertEqual(told_scene(scene), before)


class StandingTests(Checks, unittest.TestCase):
    def test_amid_a_run(self):
        scene = woven_scene()
        self.assertEqual([scene.where(number) for number in range(4)],
                         [("ended", None), ("write", 0), ("hold", 0), ("top", None)])
        self.assertEqual([scene.waits(number) for number in range(4)], [None, None, 0, None])
        self.assertEqual((scene.going(), scene.ready()), ([1, 2, 3], [1, 3]))

    def test_kinds_of_what_is_told(self):
        scene = woven_scene()
        self.assertIs(type(scene.where(1)), tuple)
        self.assertIs(type(scene.turn(3)), tuple)
        for told in (scene.going(), scene.ready(), scene.history()):
            self.assertIs(type(told), list)
        self.assertIs(type(scene.history()[0]), tuple)
        self.assertIs(type(scene.now()), int)
        self.assertIs(type(scene.turns()), int)
        self.assertIs(type(scene.run([])), int)

    def test_a_holder_does_not_wait_for_itself(self):
        scene = scene_of(Tree(2), Put(1, 2))
        go_to(scene, 0, "write")
        self.assertEqual((scene.waits(0), scene.ready()), (None, [0]))

    def test_only_looks_and_holds_wait(self):
        tree = tree_of(2, 0, 0, [(0, Leaf([5], [6]), None, None, 0)])
        scene = scene_of(tree, Put(5, 7), Find(5), Find(5), Find(5), Put(5, 8), Take(5))
        scene.turn(2)
        turns_of(scene, 3, 2)
        go_to(scene, 4, "hold")
        go_to(scene, 5, "hold")
        go_to(scene, 0, "write")
        words = ["write", "top", "look", "read", "hold", "hold"]
        self.assertEqual([scene.where(number)[0] for number in range(6)], words)
        self.assertEqual([scene.waits(number) for number in range(6)], [None, None, 0, None, 0, 0])
        self.assertEqual(scene.ready(), [0, 1, 3])

    def test_refuses_what_is_no_number_of_a_begun_call(self):
        scene = woven_scene()
        before = told_scene(scene)
        for thing in no_numbers() + [-1, 4, 60, 10 ** 29]:
            for ask in (scene.where, scene.waits, scene.turn, scene.answer):
                self.check_refused(NoDoer, "found", thing, ask, thing)
        self.assertEqual(told_scene(scene), before)

    def test_none_has_begun(self):
        scene = Scene(Tree(2))
        for thing in (0, -1, True, False, None):
            for ask in (scene.where, scene.waits, scene.turn, scene.answer):
                self.check_refused(NoDoer, "found", thing, ask, thing)


class TurnTests(Checks, unittest.TestCase):
    def test_each_turn_is_one_step(self):
        scene = scene_of(Tree(2), Find(1), Find(2))
        for now, number in enumerate((0, 1, 1, 0, 1, 0)):
            stood = scene.where(number)
            self.assertEqual(scene.now(), now)
            self.assertEqual(scene.turn(number), stood)
            self.assertEqual(scene.now(), now + 1)
        self.assertEqual(scene.going(), [])

    def test_refuses_an_ended_one_and_then_one_that_waits(self):
        scene = woven_scene()
        before = told_scene(scene)
        self.check_fields(Ended, {"doer": 0}, scene.turn, 0)
        self.check_fields(Waits, {"doer": 2, "place": 0}, scene.turn, 2)
        self.assertEqual(told_scene(scene), before)

    def test_an_ended_one_does_not_wait(self):
        scene = woven_scene()
        self.assertIsNone(scene.waits(0))
        self.assertEqual(scene.where(0), ("ended", None))


class RunTests(Checks, unittest.TestCase):
    def test_turns_in_their_order(self):
        for kind in (list, tuple):
            scene = scene_of(Tree(2), Find(1), Put(3, 4))
            other = scene.twin()
            weaving = kind([1, 0, 1, 1, 0, 0, 1, 1])
            self.assertEqual(scene.run(weaving), 8)
            for number in weaving:
                other.turn(number)
            self.assertEqual(told_scene(scene), told_scene(other))

    def test_no_turns(self):
        for weaving in ([], ()):
            scene = woven_scene()
            before = told_scene(scene)
            self.assertEqual(scene.run(weaving), scene.now())
            self.assertEqual(told_scene(scene), before)

    def test_goes_on_from_where_it_stands(self):
        scene = scene_of(Tree(2), Find(1))
        self.assertEqual(scene.run([0]), 1)
        self.assertEqual(scene.run([0, 0]), 3)
        self.assertEqual(scene.begin(Find(2)), 1)
        self.assertEqual(scene.run([1, 1, 1]), 6)
        self.assertEqual([row[2:5] for row in scene.history()], [(0, 3, 3), (3, 6, 6)])

    def test_refuses_what_is_no_list_and_no_tuple(self):
        scene = woven_scene()
        before = told_scene(scene)
        for thing in odd_things() + [0, 1, 10 ** 29]:
            self.check_refused(NoWeaving, "found", thing, scene.run, thing)
        self.assertEqual(told_scene(scene), before)

    def test_refuses_the_place_of_the_first_turn_that_fails(self):
        scene = woven_scene()
        before = told_scene(scene)
        weavings = {(0,): 0, (2,): 0, (4,): 0, (3, 0, 2): 1, (3, 2): 1, (1, 2): 1, (1, 1, 2, 2, 9): 4, (3, 3): 1,
                    (3, -1): 1}
        for weaving, at in weavings.items():
            for thing in (weaving, list(weaving)):
                error = refusal(scene.run, thing)
                self.assertIs(type(error), NoWeaving)
                self.assertEqual(vars(error), {"found": at})
                self.assertIs(type(error.found), int)
        self.assertEqual(told_scene(scene), before)

    def test_refuses_what_are_no_numbers_within(self):
        for thing in no_numbers() + [-1, 1, 10 ** 29, deep(7)]:
            scene = scene_of(Tree(2), Find(1))
            before = told_scene(scene)
            for weaving, at in (([thing], 0), ((0, thing), 1), ([0, 0, thing, 0], 2), ([0, 0, 0, thing], 3)):
                error = refusal(scene.run, weaving)
                self.assertIs(type(error), NoWeaving)
                self.assertEqual(vars(error), {"found": at})
            self.assertEqual(told_scene(scene), before)

    def test_a_refused_run_leaves_the_scene_to_go_on_as_it_would_have(self):
        scene, other = woven_scene(), woven_scene()
        refusal(scene.run, [1, 1, 3, 3, 9])
        for number in (1, 1, 1, 3):
            self.assertEqual(scene.turn(number), other.turn(number))
        self.assertEqual(told_scene(scene), told_scene(other))

    def test_a_turn_that_waits_at_first_may_come_when_the_node_is_freed(self):
        scene = woven_scene()
        go_to(scene, 1, "free")
        self.assertEqual(scene.run([1, 2]), scene.now())
        self.assertEqual(scene.where(2), ("look", 0))

    def test_a_long_weaving(self):
        scene = scene_of(Tree(2), *[Find(1)] * 60)
        self.assertEqual(scene.run(list(range(60)) * 3), 180)
        self.assertEqual(scene.going(), [])

    def test_the_weaving_is_neither_changed_nor_kept(self):
        scene = scene_of(Tree(2), Find(1))
        weaving = [0, 0]
        scene.run(weaving)
        self.assertEqual(weaving, [0, 0])
        weaving.append(5)
        self.assertEqual(scene.where(0), ("read", 0))


class HistoryTests(Checks, unittest.TestCase):
    def test_rows_stand_by_their_numbers_whoever_ended_first(self):
        scene = scene_of(Tree(2), Find(1), Find(2))
        scene.run([0, 1, 1, 1])
        self.assertEqual(scene.history(), [(1, ("find", 2), 0, 4, 4, None)])
        scene.begin(Put(3, 30))
        scene.run([2, 0, 0])
        self.assertEqual(scene.history(), [(0, ("find", 1), 0, 7, 7, None), (1, ("find", 2), 0, 4, 4, None)])
        turns_of(scene, 2)
        self.assertEqual(scene.history()[2], (2, ("put", 3, 30), 4, 12, 12, None))

    def test_answers_of_each_kind(self):
        scene = scene_of(Tree(2), Put(1, 0), Put(1, 7), Find(1), Take(1), Take(1), Find(1))
        for number in range(6):
            turns_of(scene, number)
        self.assertEqual([scene.answer(number) for number in range(6)], [None, 0, 7, 7, None, None])
        self.assertEqual([row[5] for row in scene.history()], [None, 0, 7, 7, None, None])
        self.assertEqual([row[1] for row in scene.history()],
                         [("put", 1, 0), ("put", 1, 7), ("find", 1), ("take", 1), ("take", 1), ("find", 1)])
        for number, call, began, moment, ended, answer in scene.history():
            self.assertTrue(began < moment <= ended)

    def test_no_answer_of_what_goes_on(self):
        scene = woven_scene()
        before = told_scene(scene)
        for number in (1, 2, 3):
            self.check_fields(Going, {"doer": number}, scene.answer, number)
        self.assertEqual(scene.answer(0), 6)
        self.assertEqual(told_scene(scene), before)

    def test_a_put_that_posts_has_no_answer_yet(self):
        scene = scene_of(one_leaf([1, 2], 2), Put(3, 4))
        go_to(scene, 0, "free")
        scene.turn(0)
        self.assertEqual(scene.where(0), ("top", None))
        self.check_fields(Going, {"doer": 0}, scene.answer, 0)
        self.assertEqual(scene.history(), [])


class OwnTests(Checks, unittest.TestCase):
    def test_told_lists_are_the_askers_own(self):
        scene = woven_scene()
        before = told_scene(scene)
        for tell in (scene.going, scene.ready, scene.history):
            self.assertIsNot(tell(), tell())
            tell().clear()
            tell().append(7)
        self.assertEqual(told_scene(scene), before)

    def test_the_told_tree_is_a_twin(self):
        scene = woven_scene()
        before = told_scene(scene)
        tree = scene.tree()
        self.assertIs(type(tree), Tree)
        self.assertEqual(tree.node(0)[6], 1)
        tree.free(0, 1)
        tree.leave(1)
        tree.made(0, leaf_of([]), None, None)
        self.assertEqual(told_scene(scene), before)
        tree = scene.tree()
        nodes = told_tree(tree)
        for turn in range(3):
            scene.turn(1)
        self.assertEqual(told_tree(tree), nodes)

    def test_a_twin_tells_the_same(self):
        for scene in (Scene(Tree(2)), Scene(tall_tree()), woven_scene()):
            twin = scene.twin()
            self.assertIs(type(twin), Scene)
            self.assertIsNot(twin, scene)
            self.assertEqual(told_scene(twin), told_scene(scene))

    def test_a_twin_goes_its_own_way(self):
        deeds = [lambda one: one.begin(Find(4)), lambda one: one.turn(1), lambda one: one.turn(3),
                 lambda one: one.run([1, 3, 1])]
        self.check_own_ways(woven_scene, told_scene, deeds, lambda one: one.begin(Find(5)))

    def test_a_twin_at_each_step_of_a_run_goes_on_likewise(self):
        calls = [Put(15, 1), Put(16, 2), Take(20), Find(15), Put(11, 3), Take(15), Parts(0, None), Whole(9, 30),
                 Join(25, 0), Sink(), Join(0, 1)]
        first = scene_of(even_tree(3, 2), *calls)
        weaving = []
        while first.going():
            number = first.ready()[len(weaving) * 7 % len(first.ready())]
            first.turn(number)
            weaving.append(number)
        scene = scene_of(even_tree(3, 2), *calls)
        for at, number in enumerate(weaving):
            twin = scene.twin()
            self.assertEqual(told_scene(twin), told_scene(scene))
            self.assertEqual(twin.run(weaving[at:]), len(weaving))
            self.assertEqual(told_scene(twin), told_scene(first))
            scene.turn(number)
        self.assertEqual(told_scene(scene), told_scene(first))

    def test_scenes_made_alike_tell_the_same(self):
        self.assertEqual(told_scene(woven_scene()), told_scene(woven_scene()))

    def test_two_scenes_of_one_tree_have_nothing_in_common(self):
        tree = Tree(2)
        first, second = Scene(tree), Scene(tree)
        before = told_scene(second)
        first.begin(Put(1, 2))
        turns_of(first, 0)
        self.assertEqual(told_scene(second), before)


class TurnsTests(unittest.TestCase):
    def test_one_call_in_a_new_tree(self):
        self.assertEqual(scene_of(Tree(2), Find(1)).turns(), 114)
        self.assertEqual(scene_of(Tree(2), Put(1, 2)).turns(), 675)
        self.assertEqual(scene_of(Tree(2), Take(1)).turns(), 190)

    def told(self, tree, puts, takes, joins, sinks, others):
        """What the point tells of so many calls of each kind, none of which has had a turn."""
        c = puts + takes + joins + sinks + others
        h = tree.node(tree.top())[0] + puts + 1
        d = h * puts + takes + 3 * joins + sinks
        n = len(tree.places()) + puts * (h + 1)
        return c * (h + 1 + 4 * (d + c)) * (2 * (h + 2) * n + 13)

    def test_by_the_words_of_the_point(self):
        for tree in (Tree(2), tall_tree(), even_tree(4), tower(20)):
            for puts in (0, 1, 3):
                for takes, joins, sinks in ((0, 0, 0), (2, 0, 0), (0, 1, 0), (0, 0, 1), (1, 2, 3)):
                    for others in ([], [Find(1)], [Parts(1, None)], [Whole(1, 9)], [Find(1), Parts(1, 2), Whole(1, 3)]):
                        calls = [Put(1, 2)] * puts + [Take(1)] * takes + [Join(1, 0)] * joins + [Sink()] * sinks
                        scene = scene_of(tree, *calls + others)
                        self.assertEqual(scene.turns(), self.told(tree, puts, takes, joins, sinks, len(others)))

    def test_joins_and_sinks_in_a_new_tree(self):
        self.assertEqual(scene_of(Tree(2), Join(1, 0)).turns(), (2 + 16) * 19)
        self.assertEqual(scene_of(Tree(2), Sink()).turns(), (2 + 8) * 19)
        self.assertEqual(scene_of(Tree(2), Sink(), Join(1, 0)).turns(), 2 * (2 + 24) * 19)

    def test_free_and_kept_places_count(self):
        nodes = [(0, leaf_of([5]), None, None, 0), 7, 8, 9]
        scene = scene_of(tree_of(2, 0, 0, nodes), Find(1))
        self.assertEqual(scene.turns(), 6 * (6 * 4 + 13))
        place = scene.own_tree.made(0, leaf_of([]), None, None)
        scene.own_tree.hold(place, 9)
        scene.own_tree.go(place, 9)
        self.assertEqual(told_rounds(scene.tree().rounds()), (1, [0], [(1, 0)], [2, 3], [(0, 0)]))
        self.assertEqual(scene.turns(), 6 * (6 * 4 + 13))

    def test_ended_calls_do_not_count(self):
        scene = scene_of(Tree(2), Put(1, 2), Find(1))
        turns_of(scene, 0)
        self.assertEqual(scene.turns(), 114)
        turns_of(scene, 1)
        self.assertEqual(scene.turns(), 0)
        scene.begin(Take(1))
        self.assertEqual(scene.turns(), 190)

    def test_the_top_as_it_is_then_counts(self):
        scene = scene_of(one_leaf([1, 2], 2), Put(3, 4), Find(1))
        turns_of(scene, 0)
        self.assertEqual(scene.tree().node(scene.tree().top())[0], 1)
        self.assertEqual(scene.turns(), (2 + 1 + 4) * (2 * 4 * 3 + 13))


if __name__ == "__main__":
    unittest.main()
