"""Weavings counted: points 100 and 101, and the interface of nolocktree/weavings.py."""

import random
import unittest
from math import factorial

from nolocktree.errors import NoNumber, NoWeaving, TooMany
from nolocktree.finds import Find
from nolocktree.joins import Join, Sink
from nolocktree.pages import Inner
from nolocktree.puts import Put
from nolocktree.scenes import Scene
from nolocktree.stretches import Parts, Whole
from nolocktree.takes import Take
from nolocktree.trees import Tree, tree_of
from nolocktree.weavings import number_of, weaving_at, weavings
from tests.things import (
    Checks, even_tree, go_to, leaf_of, no_numbers, odd_things, one_leaf, refusal, run_calls, scene_of, told_scene,
    tower, turns_of)


def every(scene):
    """All whole weavings of the scene, in their order, by a plain going through."""
    told = []
    to_do = [([], scene.twin())]
    while to_do:
        weaving, one = to_do.pop()
        if not one.going():
            told.append(weaving)
        for number in reversed(one.ready()):
            other = one.twin()
            other.turn(number)
            to_do.append((weaving + [number], other))
    return told


def chosen(steps):
    """In how many ways rows of so many steps each may be woven, where none hangs on another one."""
    many = factorial(sum(steps))
    for one in steps:
        many //= factorial(one)
    return many


def wide_tree(leaves, most=4):
    """A tree of so many leaves beneath one top in the last place, which has as many of them as it may have."""
    nodes = [(0, leaf_of([10 * at, 10 * at + 5]), 10 * at + 10, at + 1, 0) for at in range(leaves - 1)]
    nodes.append((0, leaf_of([10 * leaves - 10]), None, None, 0))
    posted = list(range(min(leaves, most + 1)))
    nodes.append((1, Inner([10 * at for at in posted[1:]], posted), None, None, 0))
    return tree_of(most, leaves, 0, nodes)


def amid(tree, turns, *calls):
    """A scene of these calls in which these turns were done."""
    scene = scene_of(tree, *calls)
    scene.run(turns)
    return scene


def chain_tree(places):
    """A tree of one level, of so many leaves without keys, all but the first unposted."""
    nodes = [(0, leaf_of([]), 10 * at, at + 1, 0) for at in range(places - 1)] + [(0, leaf_of([]), None, None, 0)]
    return tree_of(2, 0, 0, nodes)


class EveryTests(unittest.TestCase):
    """Small scenes, all of whose whole weavings are gone through."""

    def check_every(self, scene):
        """That all weavings are counted and numbered, and the scene stays as it stands; tells how many there are."""
        before = told_scene(scene)
        told = every(scene)
        self.assertEqual(told, sorted(told))
        self.assertEqual(weavings(scene), len(told))
        # Of many weavings some are left out, to be done in time; of few none.
        for number in list(range(0, len(told), len(told) // 300 + 1)) + [len(told) - 1]:
            self.assertEqual(weaving_at(scene, number), told[number])
            self.assertEqual(number_of(scene, told[number]), number)
        self.assertEqual(told_scene(scene), before)
        return len(told)

    def test_one_call_has_one(self):
        for tree in (Tree(2), one_leaf([5, 9], 2), even_tree(2, 4), tower(2)):
            for call in (Find(5), Put(7, 1), Take(5), Join(5, 0), Sink(), Parts(5, None), Whole(5, 9)):
                scene = scene_of(tree, call)
                self.assertEqual(self.check_every(scene), 1)
                self.assertEqual(weaving_at(scene, 0), [0] * len(turns_of(scene, 0)))

    def test_finds(self):
        self.assertEqual(self.check_every(scene_of(Tree(2), Find(1), Find(2))), chosen([3, 3]))
        self.assertEqual(self.check_every(scene_of(tower(1), Find(1), Find(2))), chosen([5, 5]))

    def test_three_calls(self):
        scene = scene_of(Tree(2), Find(1), Find(2), Sink())
        self.assertEqual(self.check_every(scene), chosen([3, 3, 2]))

    def test_two_that_write_one_leaf(self):
        for calls in ([Put(6, 1), Take(5)], [Put(5, 1), Put(5, 2)], [Take(5), Take(5)], [Put(6, 1), Find(6)],
                      [Put(6, 1), Whole(5, None)], [Take(5), Parts(0, 9)]):
            self.assertGreater(self.check_every(scene_of(one_leaf([5], 3), *calls)), 1)

    def test_one_that_parts_the_leaf(self):
        for call in (Find(9), Find(5), Join(5, 0), Sink()):
            self.assertGreater(self.check_every(scene_of(one_leaf([5, 9], 2), Put(7, 1), call)), 20)

    def test_sinks_and_joins(self):
        for calls in ([Sink(), Sink()], [Sink(), Join(0, 0)], [Sink(), Find(5)], [Join(0, 0), Join(0, 1)]):
            self.assertGreater(self.check_every(scene_of(tower(1), *calls)), 5)

    def test_amid_a_run(self):
        for turns in ([0], [0, 0, 1], [1, 1, 1, 0], [0, 0, 0, 0], [0, 0, 0, 0, 1], [0, 0, 1, 1, 0, 0, 1]):
            self.check_every(amid(one_leaf([5, 9], 2), turns, Put(7, 1), Find(9)))

    def test_numbers_of_doers_that_go_on_need_not_follow_one_another(self):
        scene = scene_of(Tree(2), Find(1), Find(2), Find(3), Find(4))
        turns_of(scene, 0)
        turns_of(scene, 2)
        self.assertEqual(self.check_every(scene), chosen([3, 3]))
        self.assertEqual((weaving_at(scene, 0), weaving_at(scene, 19)), ([1] * 3 + [3] * 3, [3] * 3 + [1] * 3))

    def test_with_a_place_that_is_kept_or_free(self):
        nodes = [(0, leaf_of([1]), 10, 1, 3), (0, leaf_of([]), None, None, 4), (1, Inner([10], [0, 1]), None, None, 5),
                 9]
        scene = scene_of(tree_of(2, 2, 0, nodes), Find(12), Join(0, 0))
        scene.run([0, 0, 0])
        turns_of(scene, 1)
        scene.begin(Take(1))
        self.check_every(scene)

    def test_where_all_have_ended(self):
        empty = Scene(even_tree(2))
        ended = scene_of(Tree(2), Find(1), Put(1, 2))
        for number in (0, 1):
            turns_of(ended, number)
        for scene in (empty, ended):
            self.assertEqual((weavings(scene), weaving_at(scene, 0)), (1, []))
            self.assertEqual((number_of(scene, []), number_of(scene, ())), (0, 0))
            self.check_every(scene)


class GreatTests(unittest.TestCase):
    """Scenes with more weavings than can be gone through."""

    def check_numbers(self, scene, seeds=6):
        """That numbers and whole weavings lead to one another, in order; tells how many there are."""
        many = weavings(scene)
        draw = random.Random(many)
        numbers = sorted({0, 1, many - 2, many - 1} | {draw.randrange(many) for turn in range(seeds)})
        told = [weaving_at(scene, number) for number in numbers]
        self.assertEqual(told, sorted(told))
        for number, weaving in zip(numbers, told):
            self.assertEqual(number_of(scene, weaving), number)
            other = scene.twin()
            other.run(weaving)
            self.assertEqual(other.going(), [])
        return many

    def test_calls_that_do_not_hinder_one_another(self):
        for tree, calls, steps in (
                (even_tree(3), [Find(1), Find(2), Find(31)], [7, 7, 7]),
                (tower(5), [Find(1), Find(2), Parts(3, None)], [13, 13, 13]),
                (wide_tree(5), [Whole(0, None), Whole(10, 30), Find(0)], [18, 9, 5]),
                (even_tree(3), [Whole(0, None), Parts(0, None), Join(0, 5)], [17, 13, 2])):
            self.assertEqual(self.check_numbers(scene_of(tree, *calls)), chosen(steps))

    def test_against_a_plain_count_of_stands(self):
        for tree, calls in (
                (one_leaf([5, 9], 2), [Put(6, 1), Put(7, 2)]),
                (one_leaf([5, 9], 2), [Put(6, 1), Take(9), Find(9)]),
                (wide_tree(2), [Join(0, 0), Take(10), Find(10)]),
                (wide_tree(2), [Join(0, 0), Put(12, 1), Whole(0, None)]),
                (tower(2), [Sink(), Sink(), Put(6, 1)]),
                (even_tree(3, 3), [Join(0, 1), Join(25, 0), Sink()])):
            scene = scene_of(tree, *calls)
            self.assertEqual(self.check_numbers(scene, 2), self.plain_count(scene, {}))

    def stand_of(self, scene):
        """All that a scene keeps, but for the numbers of its steps and what was told by then."""
        parts = []
        for doer in scene.doers:
            page = doer.seen_page and (doer.seen_page.all_keys(), doer.seen_page.goods())
            notes = (doer.to_post, doer.posted, doer.joining, doer.steps_ahead, doer.noted)
            parts.append((doer.word, doer.place, doer.key, doer.level, doer.seen_version, page, notes))
        tree = scene.tree()
        rounds = tree.rounds()
        nodes = [tree.node(place) for place in tree.places()]
        return repr((parts, tree.top(), nodes, tree.versions, rounds.kept(), rounds.free(), rounds.going()))

    def plain_count(self, scene, known):
        """How many whole weavings there are, only those stands counted together that are the same in all."""
        stand = self.stand_of(scene)
        if stand not in known:
            many = 0 if scene.going() else 1
            for number in scene.ready():
                other = scene.twin()
                other.turn(number)
                many += self.plain_count(other, known)
            known[stand] = many
        return known[stand]

    def test_scenes_of_eight_places_and_all_kinds(self):
        tree = wide_tree(7)
        self.assertEqual(len(tree.places()), 8)
        for calls in ([Put(1, 1), Put(21, 1), Whole(0, None)], [Join(0, 0), Join(20, 0), Parts(0, None)],
                      [Put(61, 1), Take(0), Join(40, 0)], [Put(1, 1), Put(2, 1), Put(3, 1)]):
            self.assertGreater(self.check_numbers(scene_of(tree, *calls), 1), 10 ** 8)

    def test_a_number_that_was_told_may_be_handed_in(self):
        scene = scene_of(even_tree(3, 2), Put(6, 1), Put(16, 1), Find(35))
        many = weavings(scene)
        self.assertGreater(many, 10 ** 12)
        last = weaving_at(scene, many - 1)
        self.assertEqual(last[0], 2)
        self.assertEqual(number_of(scene, last), many - 1)

    def test_the_first_and_the_last_one(self):
        scene = scene_of(even_tree(3), Find(1), Find(2), Find(3))
        self.assertEqual(weaving_at(scene, 0), [0] * 7 + [1] * 7 + [2] * 7)
        self.assertEqual(weaving_at(scene, weavings(scene) - 1), [2] * 7 + [1] * 7 + [0] * 7)


class SumTests(unittest.TestCase):
    def test_each_ready_doers_weavings_together_are_all(self):
        for calls in ([Put(6, 1), Put(7, 2), Take(5)], [Put(6, 1), Whole(0, None), Find(9)]):
            scene = scene_of(one_leaf([5, 9], 2), *calls)
            draw = random.Random(7)
            while scene.going():
                behind = []
                for number in scene.ready():
                    other = scene.twin()
                    other.turn(number)
                    behind.append(weavings(other))
                self.assertEqual(weavings(scene), sum(behind))
                scene.turn(draw.choice(scene.ready()))


class RefusedTests(Checks, unittest.TestCase):
    def test_more_than_three_calls_that_go_on(self):
        for many in (4, 5, 60):
            scene = scene_of(Tree(2), *[Find(1)] * many)
            for ask in (weavings, lambda one: weaving_at(one, 0), lambda one: weaving_at(one, "number"),
                        lambda one: number_of(one, []), lambda one: number_of(one, "weaving")):
                self.check_counted(TooMany, many, ask, scene)
        scene = scene_of(Tree(2), *[Find(1)] * 4)
        turns_of(scene, 2)
        self.assertEqual(weavings(scene), chosen([3, 3, 3]))

    def test_more_than_eight_places_in_use(self):
        for places in (9, 10, 12):
            scene = scene_of(chain_tree(places), Find(1))
            for ask in (weavings, lambda one: weaving_at(one, -1), lambda one: number_of(one, [7])):
                self.check_counted(TooMany, places, ask, scene)
        self.assertEqual(weavings(scene_of(chain_tree(8), Find(1))), 1)

    def test_places_that_are_free_or_kept_do_not_count(self):
        tree = tree_of(2, 0, 0, [(0, leaf_of([]), None, None, 0)] + [3] * 20)
        self.assertEqual(weavings(scene_of(tree, Find(1))), 1)
        scene = scene_of(wide_tree(8))
        self.check_counted(TooMany, 9, weavings, scene)
        first = scene.begin(Find(75))
        scene.turn(first)
        run_calls(scene, Join(0, 0))
        self.assertEqual((len(scene.tree().places()), len(scene.tree().rounds().kept())), (8, 1))
        self.assertEqual(weavings(scene), 1)

    def test_calls_come_ahead_of_places(self):
        scene = scene_of(chain_tree(9), *[Find(1)] * 5)
        self.check_counted(TooMany, 5, weavings, scene)

    def test_places_that_come_into_use_later_do_not_count(self):
        scene = scene_of(wide_tree(7, 2), Put(1, 1))
        self.assertEqual(weavings(scene), 1)
        self.assertEqual(number_of(scene, weaving_at(scene, 0)), 0)

    def test_all_ended_and_too_many_places(self):
        self.check_counted(TooMany, 9, weavings, Scene(chain_tree(9)))

    def test_what_is_no_number_of_a_weaving(self):
        scene = scene_of(Tree(2), Find(1), Find(2))
        before = told_scene(scene)
        for thing in no_numbers() + [-1, 20, 21, 10 ** 29, -10 ** 29]:
            self.check_refused(NoNumber, "found", thing, weaving_at, scene, thing)
        self.assertEqual(weaving_at(scene, 19), [1, 1, 1, 0, 0, 0])
        for thing in (-1, 1, 2, True, False, None):
            self.check_refused(NoNumber, "found", thing, weaving_at, Scene(Tree(2)), thing)
        self.assertEqual(told_scene(scene), before)

    def test_what_is_no_list_and_no_tuple(self):
        scene = scene_of(Tree(2), Find(1), Find(2))
        for thing in odd_things() + [0, 5, 10 ** 29]:
            self.check_refused(NoWeaving, "found", thing, number_of, scene, thing)

    def check_place(self, place, scene, weaving):
        """That the weaving is refused with this place, or how many turns it has, in a list and in a tuple."""
        before = told_scene(scene)
        for kind in (list, tuple):
            error = refusal(number_of, scene, kind(weaving))
            self.assertIs(type(error), NoWeaving)
            self.assertEqual(vars(error), {"found": place})
            self.assertIs(type(error.found), int)
        self.assertEqual(told_scene(scene), before)

    def test_a_turn_that_would_be_refused(self):
        scene = scene_of(Tree(2), Find(1), Find(2))
        for place, weaving in ((0, [2]), (0, [-1, 0]), (3, [0, 0, 0, 0, 1, 1, 1]), (5, [0, 1, 0, 1, 0, 0]),
                               (1, [0, 7, 8]), (6, [0, 0, 0, 1, 1, 1, 1]), (6, [1, 1, 1, 0, 0, 0, 0])):
            self.check_place(place, scene, weaving)
        for thing in no_numbers() + [2, -1, 10 ** 29]:
            self.check_place(0, scene, [thing])
            self.check_place(5, scene, [0, 1, 0, 1, 0, thing])
            self.check_place(6, scene, [0, 0, 0, 1, 1, 1, thing])

    def test_a_turn_of_one_that_waits(self):
        scene = scene_of(one_leaf([5], 3), Put(6, 1), Find(6))
        go_to(scene, 0, "write")
        self.check_place(1, scene, [1, 1])
        self.check_place(2, scene, [0, 1, 1, 0, 1, 1])
        self.assertEqual(number_of(scene, [0, 1, 0, 1, 1]), 1)

    def test_a_turn_too_few(self):
        scene = scene_of(Tree(2), Find(1), Find(2))
        for many in range(6):
            self.check_place(many, scene, [0, 1, 0, 1, 0, 1][:many])
        self.assertGreaterEqual(number_of(scene, [0, 1, 0, 1, 0, 1]), 0)

    def test_where_all_have_ended(self):
        scene = scene_of(Tree(2), Find(1))
        turns_of(scene, 0)
        self.check_place(0, scene, [0])
        self.check_place(0, scene, [1, 2, 3])
        self.assertEqual(number_of(scene, []), 0)


class OwnTests(unittest.TestCase):
    def test_the_scene_stays_as_it_stands_and_goes_on_as_it_would_have(self):
        scene = amid(one_leaf([5, 9], 2), [0, 0, 1], Put(7, 1), Take(9))
        other = scene.twin()
        weaving = weaving_at(scene, 5)
        number_of(scene, weaving)
        weavings(scene)
        self.assertEqual(told_scene(scene), told_scene(other))
        self.assertEqual(scene.run(weaving), other.run(weaving))
        self.assertEqual(told_scene(scene), told_scene(other))

    def test_told_and_handed_in_weavings_are_the_askers_own(self):
        scene = scene_of(Tree(2), Find(1), Find(2))
        told = weaving_at(scene, 3)
        self.assertIs(type(told), list)
        self.assertIsNot(told, weaving_at(scene, 3))
        told.clear()
        self.assertEqual(len(weaving_at(scene, 3)), 6)
        weaving = [0, 0, 0, 1, 1, 1]
        self.assertEqual((number_of(scene, weaving), weaving), (0, [0, 0, 0, 1, 1, 1]))

    def test_kinds_of_what_is_told(self):
        scene = scene_of(Tree(2), Find(1), Find(2))
        self.assertIs(type(weavings(scene)), int)
        self.assertIs(type(number_of(scene, weaving_at(scene, 4))), int)
        self.assertTrue(all(type(number) is int for number in weaving_at(scene, 4)))

    def test_the_same_each_time_and_of_scenes_made_alike(self):
        calls = [Put(6, 1), Put(7, 2), Find(9)]
        first, second = scene_of(one_leaf([5, 9], 2), *calls), scene_of(one_leaf([5, 9], 2), *calls)
        self.assertEqual(weavings(first), weavings(second))
        self.assertEqual(weavings(first), weavings(first.twin()))
        self.assertEqual(weaving_at(first, 12345), weaving_at(second, 12345))

    def test_other_keys_and_goods_and_versions_change_nothing(self):
        told = set()
        for factor, version, good in ((1, 0, 1), (1000, 7, -5), (-0 + 3, 10 ** 6, 0)):
            nodes = [(0, leaf_of([5 * factor, 9 * factor]), None, None, version)]
            calls = [Put(7 * factor, good), Take(9 * factor), Whole(factor, None)]
            told.add(weavings(scene_of(tree_of(2, 0, version, nodes), *calls)))
        self.assertEqual(len(told), 1)


if __name__ == "__main__":
    unittest.main()
