"""The promise: points 6 and 7, for scenes of finds, puts and takes."""

import random
import unittest

from nolocktree.finds import Find
from nolocktree.puts import Put
from nolocktree.shapes import is_shaped, pairs_of
from nolocktree.takes import Take
from nolocktree.trees import Tree, tree_of
from tests.things import GREATEST, LEAST, even_tree, one_leaf, scene_of, tall_tree, told_scene, turns_of


def no_node_is_held(tree):
    """Whether nobody holds a node of the tree."""
    return all(tree.node(place)[6] is None for place in tree.places())


def plain_do(store, call):
    """What a plain dict answers to a told call, done at once."""
    word, key = call[:2]
    before = store.get(key)
    if word == "put":
        store[key] = call[2]
    elif word == "take":
        store.pop(key, None)
    return before


class Watch:
    """A scene beside a plain store that does each put and take at its moment, and a check of both at each step."""

    def __init__(self, case, tree, calls):
        self.case = case
        self.calls = calls
        self.scene = scene_of(tree, *calls)
        self.store = dict(pairs_of(tree))
        self.moments = {}
        self.answers = {}
        self.bounds = []

    def twin(self):
        """A watch that stands alike."""
        other = Watch(self.case, Tree(2), [])
        other.calls = self.calls
        other.scene = self.scene.twin()
        other.store = dict(self.store)
        other.moments = dict(self.moments)
        other.answers = dict(self.answers)
        other.bounds = list(self.bounds)
        return other

    def turn(self, number):
        """One turn, and what must hold behind it."""
        word, place = self.scene.where(number)
        leaf_freed = word == "free" and self.scene.tree().node(place)[0] == 0
        self.bounds.append(self.scene.turns())
        self.scene.turn(number)
        ended = self.scene.where(number) == ("ended", None)
        if leaf_freed or ended and number not in self.moments:
            self.moments[number] = self.scene.now()
            self.answers[number] = plain_do(self.store, self.calls[number].told())
        self.check_step()

    def check_step(self):
        """That somebody is ready, and that the tree is shaped and has the store's pairs where no node is held."""
        self.case.assertEqual(self.scene.going() == [], self.scene.ready() == [])
        tree = self.scene.tree()
        if no_node_is_held(tree):
            self.case.assertIs(is_shaped(tree), True)
            self.case.assertEqual(pairs_of(tree), sorted(self.store.items()))

    def check_end(self):
        """That each answer is that of its moment, and that nobody took more turns than were told."""
        history = self.scene.history()
        self.case.assertEqual([row[0] for row in history], list(range(len(self.calls))))
        for number, call, began, moment, ended, answer in history:
            self.case.assertEqual(call, self.calls[number].told())
            self.case.assertEqual((moment, answer), (self.moments[number], self.answers[number]))
            self.case.assertTrue(began < moment <= ended)
        for now, bound in enumerate(self.bounds):
            self.case.assertLessEqual(self.scene.now() - now, bound)
        self.case.assertEqual(self.scene.turns(), 0)
        self.case.assertIs(no_node_is_held(self.scene.tree()), True)
        self.case.assertEqual(self.scene.tree().rounds().going(), [])

    def finish(self, choose):
        """Turns of ready doers, chosen each time, to the end of all."""
        while self.scene.going():
            self.turn(choose(self.scene.ready()))
        self.check_end()


def drawn_call(draw, keys):
    """A find, a put or a take of one of the keys."""
    key = draw.choice(keys)
    return draw.choice((Find(key), Put(key, draw.randrange(100)), Put(key, draw.randrange(100)), Take(key)))


class DrawnTests(unittest.TestCase):
    def check_drawn(self, tree, keys, many, seeds):
        """That drawn weavings of so many drawn calls keep the promise."""
        for seed in range(seeds):
            draw = random.Random(seed)
            Watch(self, tree, [drawn_call(draw, keys) for turn in range(many)]).finish(draw.choice)

    def test_in_a_new_tree(self):
        for most in (2, 3, 5):
            self.check_drawn(Tree(most), list(range(12)), 12, 40)

    def test_in_a_full_leaf(self):
        self.check_drawn(one_leaf([10, 20], 2), [5, 10, 15, 20, 25], 4, 150)

    def test_with_nodes_that_no_node_above_has(self):
        for most in (2, 3):
            self.check_drawn(tall_tree(most), list(range(28, 52)), 10, 40)

    def test_in_taller_trees(self):
        self.check_drawn(even_tree(4, 2), list(range(0, 20)), 14, 25)

    def test_puts_alone_at_one_spot(self):
        for seed in range(25):
            draw = random.Random(seed)
            keys = draw.sample(range(100, 200), 20)
            watch = Watch(self, even_tree(2, 2), [Put(key, -key) for key in keys])
            watch.finish(draw.choice)
            self.assertEqual([row[5] for row in watch.scene.history()], [None] * 20)

    def test_one_key_alone(self):
        self.check_drawn(Tree(2), [7], 8, 80)

    def test_keys_at_either_bound(self):
        self.check_drawn(Tree(2), [LEAST, LEAST + 1, -1, 0, 1, GREATEST - 1, GREATEST], 9, 40)

    def test_sixty_calls(self):
        self.check_drawn(Tree(2), list(range(40)), 60, 2)

    def test_one_doer_as_long_as_it_may(self):
        for seed in range(20):
            draw = random.Random(seed)
            calls = [drawn_call(draw, list(range(8))) for turn in range(10)]
            Watch(self, Tree(2), calls).finish(max)
            Watch(self, Tree(2), calls).finish(min)

    def test_calls_that_begin_amid_a_run(self):
        for seed in range(30):
            draw = random.Random(seed)
            watch = Watch(self, Tree(2), [])
            for turn in range(120):
                if len(watch.calls) < 15 and draw.random() < 0.2:
                    call = drawn_call(draw, list(range(9)))
                    began = watch.scene.now()
                    self.assertEqual(watch.scene.begin(call), len(watch.calls))
                    watch.calls.append(call)
                    # How many turns are told holds only so long as no other call begins.
                    watch.bounds = [10 ** 9] * began
                elif watch.scene.ready():
                    watch.turn(draw.choice(watch.scene.ready()))
            watch.finish(draw.choice)


class EveryTests(unittest.TestCase):
    """All weavings of small scenes."""

    def check_every(self, tree, calls):
        """That each weaving keeps the promise; tells how many there are."""
        ends = 0
        watches = [Watch(self, tree, calls)]
        while watches:
            watch = watches.pop()
            ready = watch.scene.ready()
            if not watch.scene.going():
                watch.check_end()
                ends += 1
            for number in ready:
                other = watch.twin() if number != ready[-1] else watch
                other.turn(number)
                watches.append(other)
        return ends

    def test_finds_alone(self):
        # Three steps each: of six turns any three are the first one's.
        self.assertEqual(self.check_every(Tree(2), [Find(1), Find(1)]), 20)
        self.assertEqual(self.check_every(Tree(2), [Find(1), Find(2), Find(3)]), 1680)

    def test_one_call_has_one_weaving(self):
        for call in (Find(5), Put(5, 1), Put(7, 1), Take(5), Take(7)):
            self.assertEqual(self.check_every(one_leaf([5, 9], 2), [call]), 1)

    def test_a_put_and_a_find(self):
        for key in (5, 9, 6):
            self.assertGreater(self.check_every(one_leaf([5, 9], 2), [Put(6, 1), Find(key)]), 50)

    def test_a_put_and_a_take(self):
        self.assertGreater(self.check_every(one_leaf([5, 9], 2), [Put(6, 1), Take(9)]), 100)
        self.assertGreater(self.check_every(one_leaf([5], 2), [Put(5, 1), Take(5)]), 10)

    def test_two_puts(self):
        self.assertGreater(self.check_every(one_leaf([5], 2), [Put(6, 1), Put(6, 2)]), 10)
        self.assertGreater(self.check_every(one_leaf([5], 2), [Put(6, 1), Put(7, 2)]), 10)

    def test_two_takes(self):
        self.assertGreater(self.check_every(one_leaf([5, 9], 2), [Take(5), Take(5)]), 10)


class PlainTests(unittest.TestCase):
    def test_one_behind_the_other_they_tell_what_a_plain_dict_tells(self):
        for seed in range(12):
            draw = random.Random(seed)
            tree = draw.choice((Tree(2), Tree(3), even_tree(3, 4), tall_tree(5)))
            store = dict(pairs_of(tree))
            for stretch in range(4):
                scene = scene_of(tree)
                for number in range(60):
                    call = drawn_call(draw, list(range(45)))
                    scene.begin(call)
                    turns_of(scene, number)
                    self.assertEqual(scene.answer(number), plain_do(store, call.told()))
                tree = scene.tree()
                self.assertEqual(pairs_of(tree), sorted(store.items()))
                self.assertIs(is_shaped(tree), True)


class OtherKeysTests(unittest.TestCase):
    """Other keys in the same order: everything goes on likewise."""

    def spread_out(self, key):
        """Another key for each key from 0 to 99, in the same order."""
        return key ** 4 * 9 - 123456 if key < 99 else GREATEST

    def test_the_same_steps_and_the_same_answers(self):
        for seed in range(15):
            draw = random.Random(seed)
            calls = [drawn_call(draw, list(range(100))) for turn in range(25)]
            others = [type(call)(self.spread_out(call.told()[1]), *call.told()[2:]) for call in calls]
            first, second = scene_of(Tree(2), *calls), scene_of(Tree(2), *others)
            while first.going():
                self.assertEqual(first.ready(), second.ready())
                number = draw.choice(first.ready())
                self.assertEqual(first.turn(number), second.turn(number))
                self.assertEqual(first.where(number), second.where(number))
            for row, other in zip(first.history(), second.history()):
                self.assertEqual((row[0],) + row[2:], (other[0],) + other[2:])
            pairs = [(self.spread_out(key), good) for key, good in pairs_of(first.tree())]
            self.assertEqual(pairs_of(second.tree()), pairs)

    def test_the_rule_keeps_the_order(self):
        keys = [self.spread_out(key) for key in range(100)]
        self.assertEqual(keys, sorted(set(keys)))


class SameTests(unittest.TestCase):
    def test_the_same_weaving_tells_the_same(self):
        for seed in range(10):
            told = []
            for turn in range(2):
                draw = random.Random(seed)
                scene = scene_of(tall_tree(2), *[drawn_call(draw, list(range(60))) for call in range(12)])
                while scene.going():
                    scene.turn(draw.choice(scene.ready()))
                told.append(told_scene(scene))
            self.assertEqual(told[0], told[1])

    def test_places_that_are_free_are_given_again_the_least_one_first(self):
        nodes = [(0, one_leaf([1, 2], 2).page(0), None, None, 0), 50, 60, 70]
        watch = Watch(self, tree_of(2, 0, 3, nodes), [Put(3, 3), Put(4, 4), Put(5, 5)])
        watch.finish(min)
        tree = watch.scene.tree()
        self.assertEqual(tree.places(), [0, 1, 2, 3])
        self.assertEqual([tree.node(place)[5] for place in (1, 2, 3)], [52, 61, 70])
        self.assertEqual(tree.rounds().free(), [])


if __name__ == "__main__":
    unittest.main()
