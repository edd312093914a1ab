"""The promise: points 6, 7 and 59, for scenes of calls of all kinds."""

import random
import unittest

from nolocktree.finds import Find
from nolocktree.joins import Join, Sink
from nolocktree.pages import Inner
from nolocktree.papers import shows_history
from nolocktree.plain import Plain
from nolocktree.puts import Put
from nolocktree.shapes import is_shaped, pairs_of
from nolocktree.stretches import Parts, Whole
from nolocktree.takes import Take
from nolocktree.trees import Tree, tree_of
from nolocktree.treetext import read_tree, write_tree
from tests.things import (
    GREATEST, LEAST, even_tree, leaf_of, one_leaf, scene_of, tall_tree, told_scene, tower, turns_of)


def no_node_is_held(tree):
    """Whether nobody holds a node of the tree."""
    return all(tree.node(place)[6] is None for place in tree.places())


def plain_do(store, call):
    """What a plain dict answers to a told find, put or take, done at once."""
    word, key = call[:2]
    before = store.get(key)
    if word == "put":
        store[key] = call[2]
    elif word == "take":
        store.pop(key, None)
    return before


def stretch_of(store, low, high):
    """The pairs of a plain dict in a stretch."""
    return [(key, store[key]) for key in sorted(store) if low <= key and (high is None or key < high)]


class Watch:
    """A scene beside a plain store that does each put and take at its moment, and a check of both at each step."""

    def __init__(self, case, tree, calls):
        self.case = case
        self.calls = calls
        self.scene = scene_of(tree, *calls)
        self.pairs = pairs_of(tree)
        self.store = dict(self.pairs)
        # How the store stood behind each step.
        self.stood = [dict(self.store)]
        self.moments = {}
        self.bounds = []
        # Which of the calls that went on when a node went still go on, by its place.
        self.kept_for = {}

    def twin(self):
        """A watch that stands alike."""
        other = Watch(self.case, Tree(2), [])
        other.calls = self.calls
        other.scene = self.scene.twin()
        other.pairs = self.pairs
        other.store = dict(self.store)
        other.stood = list(self.stood)
        other.moments = dict(self.moments)
        other.bounds = list(self.bounds)
        other.kept_for = dict(self.kept_for)
        return other

    def turn(self, number):
        """One turn, and what must hold behind it."""
        word, place = self.scene.where(number)
        call = self.calls[number].told()
        before = self.scene.tree()
        going = self.scene.going()
        leaf_freed = word == "free" and call[0] in ("put", "take") and before.node(place)[0] == 0
        self.bounds.append(self.scene.turns())
        self.scene.turn(number)
        if leaf_freed:
            self.moments[number] = self.scene.now()
            plain_do(self.store, call)
        self.stood.append(dict(self.store))
        self.check_step()
        self.check_places(before, going)

    def check_step(self):
        """That somebody is ready, and that the tree is shaped and has the store's pairs where no node is held."""
        self.case.assertEqual(self.scene.going() == [], self.scene.ready() == [])
        tree = self.scene.tree()
        if no_node_is_held(tree):
            self.case.assertIs(is_shaped(tree), True)
            self.case.assertEqual(pairs_of(tree), sorted(self.store.items()))

    def check_places(self, before, going):
        """That a place is kept just while a call goes on that went on when its node went, and then is free."""
        tree = self.scene.tree()
        used = tree.places()
        for place in before.places():
            if place not in used:
                self.kept_for[place] = going
        still = set(self.scene.going())
        self.kept_for = {place: still & set(calls) for place, calls in self.kept_for.items()}
        kept = sorted(place for place, calls in self.kept_for.items() if calls)
        self.case.assertEqual(sorted(place for place, lap in tree.rounds().kept()), kept)
        # A new node stands in the least place that was free, or in the least one that was never given.
        given = [place for place in used if place not in before.places()]
        least = before.rounds().free() + [len(before.places() + before.rounds().kept() + before.rounds().free())]
        self.case.assertIn(given, ([], least[:1]))
        for place in given:
            self.kept_for.pop(place, None)

    def check_end(self):
        """That each answer is that of its moment, and that nobody took more turns than were told."""
        history = self.scene.history()
        self.case.assertEqual([row[0] for row in history], list(range(len(self.calls))))
        for row in history:
            self.case.assertEqual(row[1], self.calls[row[0]].told())
            self.check_row(*row)
        self.case.assertIs(shows_history(self.pairs, history), True)
        for now, bound in enumerate(self.bounds):
            self.case.assertLessEqual(self.scene.now() - now, bound)
        self.case.assertEqual(self.scene.turns(), 0)
        self.case.assertIs(no_node_is_held(self.scene.tree()), True)
        self.case.assertEqual(self.scene.tree().rounds().going(), [])

    def check_row(self, number, call, began, moment, ended, answer):
        """That the answer of a call is that of its moment, or each of its parts that of its own."""
        word = call[0]
        if word == "parts":
            self.case.assertIsNone(moment)
            self.check_parts(call, began, ended, answer)
            return
        self.case.assertTrue(began < moment <= ended)
        if word in ("join", "sink"):
            self.case.assertEqual(moment, ended)
            self.case.assertIsInstance(answer, bool)
        elif word == "whole":
            self.case.assertEqual(answer, stretch_of(self.stood[moment], call[1], call[2]))
        else:
            self.case.assertEqual(answer, self.stood[moment - 1].get(call[1]))
            if word == "put" or word == "take" and answer is not None:
                self.case.assertEqual(moment, self.moments[number])

    def check_parts(self, call, began, ended, parts):
        """That the parts lie one behind the other, and each tells what was there at its moment."""
        start, last = call[1], began
        for moment, low, end, pairs in parts:
            self.case.assertEqual(low, start)
            self.case.assertTrue(last < moment <= ended)
            self.case.assertEqual(pairs, stretch_of(self.stood[moment], low, end))
            start, last = end, moment
        self.case.assertEqual(start, call[2])

    def finish(self, choose):
        """Turns of ready doers, chosen each time, to the end of all."""
        while self.scene.going():
            self.turn(choose(self.scene.ready()))
        self.check_end()


def drawn_call(draw, keys):
    """A find, a put or a take of one of the keys."""
    key = draw.choice(keys)
    return draw.choice((Find(key), Put(key, draw.randrange(100)), Put(key, draw.randrange(100)), Take(key)))


def drawn_of_all(draw, keys, levels=(0, 0, 0, 1, 1, 2)):
    """A call of any kind, with one of the keys."""
    key = draw.choice(keys)
    highs = [one for one in keys if one > key] + [None]
    return draw.choice((
        Find(key), Put(key, draw.randrange(100)), Take(key), Take(key), Join(key, draw.choice(levels)),
        Join(key, draw.choice(levels)), Sink(), Parts(key, draw.choice(highs)), Whole(key, draw.choice(highs))))


def sticking(draw):
    """A choice of the next doer that mostly stays with the last one, as far as it is ready."""
    last = [None]

    def choose(ready):
        if last[0] not in ready or draw.random() < 0.3:
            last[0] = draw.choice(ready)
        return last[0]

    return choose


class DrawnTests(unittest.TestCase):
    def check_drawn(self, tree, keys, many, seeds):
        """That drawn weavings of so many drawn calls keep the promise."""
        for seed in range(seeds):
            draw = random.Random(seed)
            Watch(self, tree, [drawn_call(draw, keys) for turn in range(many)]).finish(draw.choice)

    def test_in_a_new_tree(self):
        for most in (2, 3, 5):
            self.check_drawn(Tree(most), list(range(12)), 12, 40)

    def test_in_a_full_leaf(self):
        self.check_drawn(one_leaf([10, 20], 2), [5, 10, 15, 20, 25], 4, 150)

    def test_with_nodes_that_no_node_above_has(self):
        for most in (2, 3):
            self.check_drawn(tall_tree(most), list(range(28, 52)), 10, 40)

    def test_in_taller_trees(self):
        self.check_drawn(even_tree(4, 2), list(range(0, 20)), 14, 25)

    def test_puts_alone_at_one_spot(self):
        for seed in range(25):
            draw = random.Random(seed)
            keys = draw.sample(range(100, 200), 20)
            watch = Watch(self, even_tree(2, 2), [Put(key, -key) for key in keys])
            watch.finish(draw.choice)
            self.assertEqual([row[5] for row in watch.scene.history()], [None] * 20)

    def test_one_key_alone(self):
        self.check_drawn(Tree(2), [7], 8, 80)

    def test_keys_at_either_bound(self):
        self.check_drawn(Tree(2), [LEAST, LEAST + 1, -1, 0, 1, GREATEST - 1, GREATEST], 9, 40)

    def test_sixty_calls(self):
        self.check_drawn(Tree(2), list(range(40)), 60, 2)

    def test_one_doer_as_long_as_it_may(self):
        for seed in range(20):
            draw = random.Random(seed)
            calls = [drawn_call(draw, list(range(8))) for turn in range(10)]
            Watch(self, Tree(2), calls).finish(max)
            Watch(self, Tree(2), calls).finish(min)

    def test_calls_that_begin_amid_a_run(self):
        for seed in range(30):
            draw = random.Random(seed)
            watch = Watch(self, Tree(2), [])
            for turn in range(120):
                if len(watch.calls) < 15 and draw.random() < 0.2:
                    call = drawn_call(draw, list(range(9)))
                    began = watch.scene.now()
                    self.assertEqual(watch.scene.begin(call), len(watch.calls))
                    watch.calls.append(call)
                    # How many turns are told holds only so long as no other call begins.
                    watch.bounds = [10 ** 9] * began
                elif watch.scene.ready():
                    watch.turn(draw.choice(watch.scene.ready()))
            watch.finish(draw.choice)


class DrawnOfAllTests(unittest.TestCase):
    """Drawn weavings of calls of all kinds."""

    def check_drawn(self, tree, keys, many, seeds):
        """That drawn weavings of so many drawn calls keep the promise; tells all histories."""
        told = []
        for seed in range(seeds):
            draw = random.Random(seed)
            watch = Watch(self, tree, [drawn_of_all(draw, keys) for turn in range(many)])
            watch.finish(draw.choice if seed % 2 else sticking(draw))
            told += watch.scene.history()
        return told

    def check_met(self, history, *words):
        """That of these joins and sinks some have ended with True."""
        for word in words:
            self.assertIn(True, [row[5] for row in history if row[1][0] == word])

    def test_small_scenes(self):
        for tree in (Tree(2), even_tree(2, 2), even_tree(2, 4), tower(2), one_leaf([10, 20], 2)):
            self.check_drawn(tree, [0, 5, 7, 10, 12, 15], 4, 60)

    def test_in_a_new_tree(self):
        for most in (2, 3):
            self.check_drawn(Tree(most), list(range(12)), 20, 30)

    def test_in_taller_trees(self):
        for levels, most in ((3, 2), (3, 3), (3, 5), (4, 3)):
            keys = list(range(0, 10 * 2 ** (levels - 1), 5))
            self.check_met(self.check_drawn(even_tree(levels, most), keys, 15, 20), "join")

    def test_in_towers(self):
        self.check_met(self.check_drawn(tower(3), [1, 5, 9, 13], 10, 50), "sink")

    def test_with_nodes_that_no_node_above_has(self):
        for most in (2, 3):
            self.check_met(self.check_drawn(tall_tree(most), list(range(0, 70, 5)), 12, 30), "join")

    def test_sixty_calls(self):
        self.check_met(self.check_drawn(even_tree(4, 4), list(range(0, 80, 5)), 60, 2), "join")

    def test_in_trees_that_were_read_from_a_text(self):
        for tree in (even_tree(3, 3), tall_tree(3), tower(2)):
            self.check_drawn(read_tree(write_tree(tree)), list(range(0, 50, 5)), 10, 10)
        for seed in range(5):
            draw = random.Random(seed)
            tree = Tree(2)
            for stretch in range(5):
                watch = Watch(self, tree, [drawn_of_all(draw, list(range(24))) for turn in range(12)])
                watch.finish(draw.choice)
                tree = read_tree(write_tree(watch.scene.tree()))

    def test_in_trees_with_free_places(self):
        nodes = [4, (0, leaf_of([1, 5]), 10, 3, 7), 10 ** 6, (0, leaf_of([10]), None, None, 0), 0,
                 (1, Inner([10], [1, 3]), None, None, 1)]
        self.check_drawn(tree_of(2, 5, 9, nodes), [0, 1, 3, 5, 7, 10, 12], 8, 40)

    def test_where_all_keys_are_taken_and_all_is_joined(self):
        for seed in range(15):
            draw = random.Random(seed)
            calls = [Take(key) for key in range(0, 40, 5)] + [Join(key, 0) for key in (0, 20, 30)]
            calls += [Join(0, 1), Join(0, 1), Sink(), Sink(), Whole(0, None), Parts(0, None), Put(12, 1), Find(15)]
            watch = Watch(self, even_tree(3, 3), draw.sample(calls, len(calls)))
            watch.finish(draw.choice if seed % 2 else sticking(draw))

    def test_one_doer_as_long_as_it_may(self):
        for seed in range(20):
            draw = random.Random(seed)
            calls = [drawn_of_all(draw, list(range(0, 20, 3))) for turn in range(10)]
            Watch(self, even_tree(2, 3), calls).finish(max)
            Watch(self, even_tree(2, 3), calls).finish(min)

    def test_calls_that_begin_amid_a_run(self):
        for seed in range(20):
            draw = random.Random(seed)
            watch = Watch(self, even_tree(3, 3), [])
            for turn in range(200):
                if len(watch.calls) < 20 and draw.random() < 0.2:
                    call = drawn_of_all(draw, list(range(0, 40, 5)))
                    began = watch.scene.now()
                    watch.scene.begin(call)
                    watch.calls.append(call)
                    watch.bounds = [10 ** 9] * began
                elif watch.scene.ready():
                    watch.turn(draw.choice(watch.scene.ready()))
            watch.finish(draw.choice)

    def test_one_scene_behind_the_other(self):
        for seed in range(4):
            draw = random.Random(seed)
            tree = Tree(2)
            for stretch in range(5):
                calls = [drawn_of_all(draw, list(range(30))) for turn in range(15)]
                calls += [Put(draw.randrange(30), 0) for turn in range(6)]
                watch = Watch(self, tree, calls)
                watch.finish(draw.choice)
                tree = watch.scene.tree()


class EveryTests(unittest.TestCase):
    """All weavings of small scenes."""

    def check_every(self, tree, calls):
        """That each weaving keeps the promise; tells how many there are."""
        ends = 0
        watches = [Watch(self, tree, calls)]
        while watches:
            watch = watches.pop()
            ready = watch.scene.ready()
            if not watch.scene.going():
                watch.check_end()
                ends += 1
            for number in ready:
                other = watch.twin() if number != ready[-1] else watch
                other.turn(number)
                watches.append(other)
        return ends

    def test_finds_alone(self):
        # Three steps each: of six turns any three are the first one's.
        self.assertEqual(self.check_every(Tree(2), [Find(1), Find(1)]), 20)
        self.assertEqual(self.check_every(Tree(2), [Find(1), Find(2), Find(3)]), 1680)

    def test_one_call_has_one_weaving(self):
        for call in (Find(5), Put(5, 1), Put(7, 1), Take(5), Take(7)):
            self.assertEqual(self.check_every(one_leaf([5, 9], 2), [call]), 1)

    def test_a_put_and_a_find(self):
        for key in (5, 9, 6):
            self.assertGreater(self.check_every(one_leaf([5, 9], 2), [Put(6, 1), Find(key)]), 50)

    def test_a_put_and_a_take(self):
        self.assertGreater(self.check_every(one_leaf([5, 9], 2), [Put(6, 1), Take(9)]), 100)
        self.assertGreater(self.check_every(one_leaf([5], 2), [Put(5, 1), Take(5)]), 10)

    def test_two_puts(self):
        self.assertGreater(self.check_every(one_leaf([5], 2), [Put(6, 1), Put(6, 2)]), 10)
        self.assertGreater(self.check_every(one_leaf([5], 2), [Put(6, 1), Put(7, 2)]), 10)

    def test_two_takes(self):
        self.assertGreater(self.check_every(one_leaf([5, 9], 2), [Take(5), Take(5)]), 10)

    def test_joins_and_sinks_alone(self):
        for call in (Join(5, 0), Join(5, 1), Sink()):
            self.assertEqual(self.check_every(even_tree(2, 4), [call]), 1)
            self.assertEqual(self.check_every(tower(2), [call]), 1)

    def test_two_sinks(self):
        self.assertGreater(self.check_every(tower(1), [Sink(), Sink()]), 10)

    def test_a_sink_beside_others(self):
        for call in (Find(5), Take(5), Put(5, 1), Join(5, 0), Parts(0, None), Whole(0, None)):
            self.assertGreater(self.check_every(tower(1), [Sink(), call]), 10)

    def test_stretches_beside_others(self):
        self.assertGreater(self.check_every(one_leaf([5], 2), [Whole(0, None), Put(5, 1)]), 10)
        self.assertGreater(self.check_every(one_leaf([5, 9], 2), [Parts(5, None), Put(7, 1)]), 10)
        self.assertGreater(self.check_every(one_leaf([5, 9], 2), [Whole(5, 9), Take(9)]), 10)

    def test_a_join_beside_a_find(self):
        tree = tree_of(2, 2, 0, [(0, leaf_of([1]), 5, 1, 0), (0, leaf_of([9]), None, None, 0),
                                 (1, Inner([5], [0, 1]), None, None, 0)])
        self.assertGreater(self.check_every(tree, [Join(0, 0), Find(9)]), 50)


class PlainTests(unittest.TestCase):
    def test_one_behind_the_other_they_tell_what_the_plain_store_tells(self):
        for seed in range(12):
            draw = random.Random(seed)
            tree = draw.choice((Tree(2), Tree(3), even_tree(3, 4), tall_tree(5), tower(4)))
            store = Plain(pairs_of(tree))
            for stretch in range(3):
                scene = scene_of(tree)
                for number in range(60):
                    call = drawn_of_all(draw, list(range(0, 45, 3)))
                    scene.begin(call)
                    turns_of(scene, number)
                    self.check_answer(store, call.told(), scene.answer(number))
                self.assertIs(shows_history(pairs_of(tree), scene.history()), True)
                tree = scene.tree()
                self.assertEqual(pairs_of(tree), store.pairs())

    def check_answer(self, store, call, answer):
        """That the answer is the store's; of parts, that all of them together are."""
        if call[0] in ("join", "sink"):
            self.assertIsInstance(answer, bool)
        elif call[0] == "parts":
            self.assertEqual([pair for part in answer for pair in part[3]], store.do(call))
        else:
            self.assertEqual(answer, store.do(call))

    def test_one_behind_the_other_they_tell_what_a_plain_dict_tells(self):
        for seed in range(12):
            draw = random.Random(seed)
            tree = draw.choice((Tree(2), Tree(3), even_tree(3, 4), tall_tree(5)))
            store = dict(pairs_of(tree))
            for stretch in range(4):
                scene = scene_of(tree)
                for number in range(60):
                    call = drawn_call(draw, list(range(45)))
                    scene.begin(call)
                    turns_of(scene, number)
                    self.assertEqual(scene.answer(number), plain_do(store, call.told()))
                tree = scene.tree()
                self.assertEqual(pairs_of(tree), sorted(store.items()))
                self.assertIs(is_shaped(tree), True)


class OtherKeysTests(unittest.TestCase):
    """Other keys in the same order: everything goes on likewise."""

    def spread_out(self, key):
        """Another key for each key from 0 to 99, in the same order."""
        return key ** 4 * 9 - 123456 if key < 99 else GREATEST

    def other_call(self, call):
        """The call with other keys."""
        word, *given = call.told()
        # Behind the key of a put stands its good, behind that of a join its level; of stretches both are keys.
        many = 2 if word in ("parts", "whole") else 1
        return type(call)(*[self.other_end(one) for one in given[:many]], *given[many:])

    def other_end(self, key):
        """The other key, or None for None."""
        return None if key is None else self.spread_out(key)

    def other_pairs(self, pairs):
        """The pairs with other keys."""
        return [(self.spread_out(key), good) for key, good in pairs]

    def other_answer(self, word, answer):
        """The answer with other keys."""
        if word == "whole":
            return self.other_pairs(answer)
        if word == "parts":
            return [(moment, self.other_end(low), self.other_end(end), self.other_pairs(pairs))
                    for moment, low, end, pairs in answer]
        return answer

    def test_the_same_steps_and_the_same_answers(self):
        for seed in range(15):
            draw = random.Random(seed)
            calls = [drawn_call(draw, list(range(100))) for turn in range(15)]
            calls += [drawn_of_all(draw, list(range(100))) for turn in range(15)]
            others = [self.other_call(call) for call in calls]
            first, second = scene_of(Tree(2), *calls), scene_of(Tree(2), *others)
            while first.going():
                self.assertEqual(first.ready(), second.ready())
                number = draw.choice(first.ready())
                self.assertEqual(first.turn(number), second.turn(number))
                self.assertEqual(first.where(number), second.where(number))
            for row, other in zip(first.history(), second.history()):
                self.assertEqual((row[0],) + row[2:5], (other[0],) + other[2:5])
                self.assertEqual(self.other_answer(row[1][0], row[5]), other[5])
            self.assertEqual(pairs_of(second.tree()), self.other_pairs(pairs_of(first.tree())))

    def test_the_rule_keeps_the_order(self):
        keys = [self.spread_out(key) for key in range(100)]
        self.assertEqual(keys, sorted(set(keys)))


class SameTests(unittest.TestCase):
    def test_the_same_weaving_tells_the_same(self):
        for seed in range(10):
            told = []
            for turn in range(2):
                draw = random.Random(seed)
                scene = scene_of(tall_tree(2), *[drawn_call(draw, list(range(60))) for call in range(12)])
                while scene.going():
                    scene.turn(draw.choice(scene.ready()))
                told.append(told_scene(scene))
            self.assertEqual(told[0], told[1])

    def test_places_that_are_free_are_given_again_the_least_one_first(self):
        nodes = [(0, leaf_of([1, 2]), None, None, 0), 50, 60, 70]
        watch = Watch(self, tree_of(2, 0, 3, nodes), [Put(3, 3), Put(4, 4), Put(5, 5)])
        watch.finish(min)
        tree = watch.scene.tree()
        self.assertEqual(tree.places(), [0, 1, 2, 3])
        self.assertEqual([tree.node(place)[5] for place in (1, 2, 3)], [52, 61, 70])
        self.assertEqual(tree.rounds().free(), [])


if __name__ == "__main__":
    unittest.main()
