"""The shape of trees: points 44 to 46, and the interface of nolocktree/shapes.py."""

import random
import unittest

from nolocktree.pages import Inner, Leaf
from nolocktree.shapes import is_shaped, levels_of, pairs_of, unposted
from nolocktree.trees import Tree, tree_of
from tests.things import GREATEST, LEAST, even_tree, inner_of, leaf_of, spread, tall_tree, told_tree

# A shaped tree of two levels with most 3; the leaf in place 3 is unposted. Its nodes are varied below.
LOW_NODES = (
    (0, Leaf([1, 2], [11, 12]), 10, 1, 0),
    (0, Leaf([10, 12, 19], [20, 22, 29]), 20, 3, 0),
    (0, Leaf([30], [40]), None, None, 0),
    (0, Leaf([], []), 30, 2, 0),
    (1, Inner([10], [0, 1]), 30, 5, 0),
    (1, Inner([], [2]), None, None, 0),
    (2, Inner([30], [4, 5]), None, None, 0),
)
LOW_TOP = 6


def varied(changes, top=LOW_TOP):
    """The tree of LOW_NODES with other nodes in some places; places behind the last one may be added."""
    nodes = dict(enumerate(LOW_NODES))
    nodes.update(changes)
    return tree_of(3, top, 0, [nodes[place] for place in range(len(nodes))])


def leaf_node(keys, high, right):
    """What tells a leaf."""
    return (0, leaf_of(keys), high, right, 0)


def inner_node(level, keys, places, high=None, right=None):
    """What tells an inner node."""
    return (level, Inner(keys, places), high, right, 0)


class LevelTests(unittest.TestCase):
    def test_a_new_tree(self):
        self.assertEqual(levels_of(Tree(3)), [[0]])

    def test_one_to_four_levels(self):
        self.assertEqual(levels_of(even_tree(1)), [[0]])
        self.assertEqual(levels_of(even_tree(2)), [[2], [0, 1]])
        self.assertEqual(levels_of(even_tree(3)), [[6], [4, 5], [0, 1, 2, 3]])
        self.assertEqual(levels_of(even_tree(4)), [[14], [12, 13], [8, 9, 10, 11], [0, 1, 2, 3, 4, 5, 6, 7]])

    def test_neighbours_that_no_node_above_has(self):
        self.assertEqual(levels_of(tall_tree()), [[7], [5, 6, 9], [0, 1, 2, 4, 3, 8, 10]])
        self.assertEqual(levels_of(varied({})), [[6], [4, 5], [0, 1, 3, 2]])

    def test_neighbours_of_the_top(self):
        tree = varied({}, 4)
        self.assertEqual(levels_of(tree), [[4, 5], [0, 1, 3, 2]])

    def test_the_first_list_begins_with_the_top_wherever_that_stands(self):
        self.assertEqual(levels_of(varied({}, 5)), [[5], [2]])
        self.assertEqual(levels_of(varied({}, 1)), [[1, 3, 2]])

    def test_a_list_that_goes_round_ends(self):
        tree = varied({2: leaf_node([30], 90, 0)})
        self.assertEqual(levels_of(tree), [[6], [4, 5], [0, 1, 3, 2]])
        tree = varied({2: leaf_node([30], 90, 2)})
        self.assertEqual(levels_of(tree), [[6], [4, 5], [0, 1, 3, 2]])
        tree = varied({6: inner_node(2, [30], [4, 5], 90, 6)})
        self.assertEqual(levels_of(tree), [[6], [4, 5], [0, 1, 3, 2]])

    def test_a_list_ends_ahead_of_another_level(self):
        tree = varied({1: leaf_node([10], 20, 4), 3: (1, inner_of([], 1), None, None, 0)})
        self.assertEqual(levels_of(tree), [[6], [4, 5], [0, 1]])
        tree = varied({5: inner_node(1, [], [2], 90, 3)})
        self.assertEqual(levels_of(tree), [[6], [4, 5], [0, 1, 3, 2]])

    def test_a_list_ends_ahead_of_a_place_that_is_not_in_use(self):
        tree = varied({})
        tree.hold(3, 1)
        tree.go(3, 1)
        self.assertEqual(levels_of(tree), [[6], [4, 5], [0, 1]])
        tree = varied({})
        tree.enter(1)
        tree.hold(3, 1)
        tree.go(3, 1)
        self.assertEqual(levels_of(tree), [[6], [4, 5], [0, 1]])

    def test_an_empty_list_and_all_behind_it(self):
        for first in (9, 10 ** 29, 0, 6):
            tree = varied({6: inner_node(2, [30], [first, 5])})
            self.assertEqual(levels_of(tree), [[6], [], []])

    def test_a_list_whose_beginning_stands_in_one_already(self):
        # What stands in a list above is of another level, too.
        tree = varied({4: inner_node(1, [10], [6, 1], 30, 5)})
        self.assertEqual(levels_of(tree), [[6], [4, 5], []])

    def test_a_gap_between_levels(self):
        tree = tree_of(3, 1, 0, [leaf_node([1], None, None), inner_node(60, [], [0])])
        self.assertEqual(levels_of(tree), [[1]] + [[]] * 60)

    def test_levels_up_to_sixty(self):
        nodes = [leaf_node([5], None, None)]
        nodes += [inner_node(level, [], [level - 1]) for level in range(1, 61)]
        tree = tree_of(2, 60, 0, nodes)
        self.assertEqual(levels_of(tree), [[level] for level in range(60, -1, -1)])
        self.assertIs(is_shaped(tree), True)
        self.assertEqual(pairs_of(tree), [(5, 10005)])
        self.assertEqual(unposted(tree), [])

    def test_told_lists_are_the_askers_own(self):
        tree = tall_tree()
        before = told_tree(tree)
        for tell in (levels_of, pairs_of, unposted):
            first = tell(tree)
            again = tell(tree)
            self.assertIsNot(first, again)
            self.assertEqual(first, again)
            first.clear()
            self.assertEqual(tell(tree), again)
        levels = levels_of(tree)
        levels[1].clear()
        self.assertEqual(levels_of(tree), [[7], [5, 6, 9], [0, 1, 2, 4, 3, 8, 10]])
        is_shaped(tree)
        self.assertEqual(told_tree(tree), before)

    def test_empty_lists_are_not_one_and_the_same(self):
        levels = levels_of(varied({6: inner_node(2, [30], [9, 5])}))
        levels[1].append(7)
        self.assertEqual(levels, [[6], [7], []])


class PairTests(unittest.TestCase):
    def test_a_new_tree(self):
        self.assertEqual(pairs_of(Tree(3)), [])

    def test_one_to_four_levels(self):
        for levels in (1, 2, 3, 4):
            keys = list(range(0, 10 * 2 ** (levels - 1), 5))
            pairs = pairs_of(even_tree(levels))
            self.assertEqual(pairs, [(key, key + 10000) for key in keys])
            self.assertIs(type(pairs), list)
            self.assertEqual({type(pair) for pair in pairs}, {tuple})

    def test_leaves_that_no_node_above_has_and_leaves_without_keys(self):
        self.assertEqual(pairs_of(varied({})), [(1, 11), (2, 12), (10, 20), (12, 22), (19, 29), (30, 40)])
        self.assertEqual([key for key, good in pairs_of(tall_tree())], [1, 5, 10, 30, 40, 49, 50, 60, 99])

    def test_from_the_left_whatever_the_keys_are(self):
        tree = tree_of(3, 0, 0, [leaf_node([50], 5, 1), leaf_node([1, 2], None, None)])
        self.assertEqual([key for key, good in pairs_of(tree)], [50, 1, 2])

    def test_the_last_list_alone_counts(self):
        self.assertEqual(pairs_of(varied({6: inner_node(2, [30], [9, 5])})), [])
        self.assertEqual(pairs_of(varied({}, 5)), [(30, 40)])

    def test_keys_at_either_bound(self):
        tree = tree_of(2, 0, 0, [(0, Leaf([LEAST, GREATEST], [GREATEST, LEAST]), None, None, 0)])
        self.assertEqual(pairs_of(tree), [(LEAST, GREATEST), (GREATEST, LEAST)])


class UnpostedTests(unittest.TestCase):
    def test_none(self):
        for tree in (Tree(3), even_tree(1), even_tree(2), even_tree(3), even_tree(4)):
            self.assertEqual(unposted(tree), [])

    def test_at_each_level_from_the_first_list_on(self):
        self.assertEqual(unposted(varied({})), [3])
        self.assertEqual(unposted(tall_tree()), [6, 4])

    def test_neighbours_of_the_top(self):
        self.assertEqual(unposted(varied({}, 4)), [5, 3])
        self.assertEqual(unposted(varied({}, 0)), [1, 3, 2])

    def test_a_place_that_only_another_level_has(self):
        # The leaf in place 3 stands in the page of the top, which is not the list ahead of it.
        tree = varied({6: inner_node(2, [30, 40], [4, 5, 3])})
        self.assertEqual(unposted(tree), [3])

    def test_several_in_one_list_from_the_left(self):
        tree = varied({4: inner_node(1, [], [0], 30, 5)})
        self.assertEqual(unposted(tree), [1, 3])
        tree = varied({4: inner_node(1, [], [0], 30, 5), 5: inner_node(1, [], [3])})
        self.assertEqual(unposted(tree), [1, 2])

    def test_in_lists_behind_an_empty_one_there_is_none(self):
        self.assertEqual(unposted(varied({6: inner_node(2, [30], [9, 5])})), [])


class ShapedTests(unittest.TestCase):
    def check_shaped(self, changes, shaped, top=LOW_TOP):
        """That the varied tree is shaped, or is not."""
        self.assertIs(is_shaped(varied(changes, top)), shaped)

    def test_shaped_ones(self):
        trees = [Tree(2), Tree(5), tall_tree(), tall_tree(2), varied({}), varied({}, 6)]
        trees += [even_tree(levels, most) for levels in (1, 2, 3, 4) for most in (2, 3, 4, 5)]
        for tree in trees:
            self.assertIs(is_shaped(tree), True)

    def test_a_place_in_use_in_no_level(self):
        self.check_shaped({7: leaf_node([], None, None)}, False)
        self.check_shaped({7: inner_node(1, [], [2])}, False)
        self.check_shaped({7: inner_node(9, [], [6])}, False)
        self.check_shaped({}, False, 5)

    def test_free_and_kept_places_stand_in_no_level(self):
        self.check_shaped({7: 0, 8: 5}, True)
        tree = varied({7: leaf_node([], None, None)})
        tree.enter(1)
        tree.hold(7, 1)
        tree.go(7, 1)
        self.assertIs(is_shaped(tree), True)
        self.assertEqual(tree.rounds().kept(), [(7, 0)])

    def test_held_nodes_may_be_there(self):
        tree = varied({})
        tree.hold(0, 1)
        self.assertIs(is_shaped(tree), True)

    def test_a_last_node_with_a_right(self):
        for right in (0, 2, 4, 6):
            self.check_shaped({2: leaf_node([30], 90, right)}, False)
            self.check_shaped({5: inner_node(1, [], [2], 90, right)}, False)
            self.check_shaped({6: inner_node(2, [30], [4, 5], 90, right)}, False)
        tree = varied({2: leaf_node([30], 90, 7), 7: leaf_node([], None, None)})
        self.assertIs(is_shaped(tree), True)
        tree.hold(7, 1)
        tree.go(7, 1)
        self.assertIs(is_shaped(tree), False)

    def test_keys_at_and_beside_the_low(self):
        self.check_shaped({1: leaf_node([10], 20, 3)}, True)
        self.check_shaped({1: leaf_node([9, 12], 20, 3)}, False)
        self.check_shaped({3: leaf_node([20], 30, 2)}, True)
        self.check_shaped({3: leaf_node([19], 30, 2)}, False)
        self.check_shaped({0: leaf_node([LEAST], 10, 1)}, True)

    def test_keys_at_and_beside_the_high(self):
        self.check_shaped({0: leaf_node([9], 10, 1)}, True)
        self.check_shaped({0: leaf_node([10], 10, 1)}, False)
        self.check_shaped({0: leaf_node([1, 11], 10, 1)}, False)
        self.check_shaped({2: (0, Leaf([GREATEST], [1]), None, None, 0)}, True)

    def test_keys_of_inner_nodes_beside_low_and_high(self):
        # The child behind each key has the key as its low: only the edges of the node itself are amiss.
        self.check_shaped({5: inner_node(1, [20], [2, 3])}, False)
        self.check_shaped({4: inner_node(1, [10, 20, 30], [0, 1, 3, 2], 30, 5), 5: inner_node(1, [], [2])}, False)
        self.check_shaped({4: inner_node(1, [10, 20], [0, 1, 3], 30, 5)}, True)

    def test_a_low_that_is_not_below_the_high(self):
        for high, shaped in ((31, True), (30, False), (29, False)):
            added = {3: leaf_node([], 30, 7), 7: leaf_node([], high, 2), 2: leaf_node([40], None, None),
                     5: inner_node(1, [], [7])}
            self.check_shaped(added, shaped)

    def test_the_first_and_the_last_of_a_level_lack_one_of_both(self):
        changes = {0: leaf_node([], LEAST, 1), 1: leaf_node([], 20, 3), 4: inner_node(1, [LEAST], [0, 1], 30, 5)}
        self.check_shaped(changes, True)

    def test_at_most_so_many_keys(self):
        self.check_shaped({0: leaf_node([1, 2, 3], 10, 1)}, True)
        self.check_shaped({0: leaf_node([1, 2, 3, 4], 10, 1)}, False)
        keys = spread(5)
        for most in (2, 3, 4, 5):
            for many in range(6):
                leaf = tree_of(most, 0, 0, [leaf_node(keys[:many], None, None)])
                self.assertIs(is_shaped(leaf), many <= most)
                self.assertIs(is_shaped(self.wide_tree(most, keys[:many])), many <= most)

    def wide_tree(self, most, keys):
        """A tree of two levels whose top has these keys."""
        lows = [None] + keys
        nodes = [leaf_node([], high, at + 1) for at, high in enumerate(keys)] + [leaf_node([], None, None)]
        nodes.append(inner_node(1, keys, list(range(len(lows)))))
        return tree_of(most, len(lows), 0, nodes)

    def test_a_child_that_does_not_stand_in_the_level_beneath(self):
        for child in (9, 10 ** 29, 4, 5, 6):
            self.check_shaped({4: inner_node(1, [10, 20], [0, 1, child], 30, 5)}, False)
            self.check_shaped({5: inner_node(1, [], [child])}, False)
        for child in (9, 0, 1, 3, 6):
            self.check_shaped({6: inner_node(2, [30], [4, child])}, False)

    def test_a_first_place_whose_low_is_not_the_nodes(self):
        self.check_shaped({5: inner_node(1, [], [3])}, False)
        self.check_shaped({5: inner_node(1, [], [0])}, False)
        self.check_shaped({4: inner_node(1, [10], [0, 1], 20, 5), 5: inner_node(1, [], [3]),
                           6: inner_node(2, [20], [4, 5])}, True)

    def test_another_place_whose_low_is_not_the_key_ahead(self):
        for key in (9, 11, 20):
            self.check_shaped({4: inner_node(1, [key], [0, 1], 30, 5)}, False)
        for key in (29, 31):
            self.check_shaped({6: inner_node(2, [key], [4, 5])}, False)
        self.check_shaped({4: inner_node(1, [10, 20], [0, 3, 1], 30, 5)}, False)

    def test_an_empty_level(self):
        self.check_shaped({6: inner_node(2, [30], [9, 5])}, False)
        tree = tree_of(3, 0, 0, [inner_node(1, [], [1])])
        self.assertEqual(levels_of(tree), [[0], []])
        self.assertIs(is_shaped(tree), False)

    def test_keys_at_either_bound(self):
        nodes = [leaf_node([], LEAST, 1), (0, Leaf([LEAST], [1]), GREATEST, 2, 0),
                 (0, Leaf([GREATEST], [1]), None, None, 0), inner_node(1, [LEAST, GREATEST], [0, 1, 2])]
        self.assertIs(is_shaped(tree_of(2, 3, 0, nodes)), True)

    def test_drawn_trees_beside_a_plain_reckoning(self):
        draw = random.Random(4)
        found = {True: 0, False: 0}
        for turn in range(1500):
            tree = varied(self.drawn_changes(draw))
            shaped = plainly_shaped(tree)
            self.assertIs(is_shaped(tree), shaped)
            found[shaped] += 1
        self.assertGreater(min(found.values()), 100)

    def drawn_changes(self, draw):
        """One or two nodes of the tree, changed a little."""
        changes = {}
        for turn in range(draw.choice((1, 1, 2))):
            place = draw.randrange(7)
            level, page, high, right, version = LOW_NODES[place]
            keys, goods = page.all_keys(), page.goods()
            if draw.random() < 0.5 and keys:
                keys[draw.randrange(len(keys))] += draw.choice((-1, 0, 1))
            if draw.random() < 0.3 and level > 0:
                goods[draw.randrange(len(goods))] = draw.randrange(20, 22) if draw.random() < 0.5 else goods[-1]
            if draw.random() < 0.3 and high is not None:
                high, right = high + draw.choice((-1, 0, 1)), draw.choice((right, right, draw.randrange(7)))
            if len(set(goods)) == len(goods) and sorted(set(keys)) == keys:
                changes[place] = (level, type(page)(keys, goods), high, right, version)
        return changes


def plainly_shaped(tree):
    """Whether the tree is shaped, by the words of the point, one behind the other."""
    levels = levels_of(tree)
    lows = {}
    for chain in levels:
        for ahead, place in zip([None] + chain, chain):
            lows[place] = None if ahead is None else tree.node(ahead)[3]
    if set(tree.places()) != set(lows) or any(chain and tree.node(chain[-1])[4] is not None for chain in levels):
        return False
    for at, chain in enumerate(levels):
        for place in chain:
            level, keys, goods, high, right, version, holder, gone = tree.node(place)
            low, top = lows[place], GREATEST + 1 if high is None else high
            bottom = LEAST if low is None else low
            if any(key < bottom or key >= top for key in keys) or bottom >= top and None not in (low, high):
                return False
            if len(keys) > tree.most():
                return False
            if level > 0 and any(child not in levels[at + 1] for child in goods):
                return False
            if level > 0 and [lows[child] for child in goods] != [low] + keys:
                return False
    return True


if __name__ == "__main__":
    unittest.main()
