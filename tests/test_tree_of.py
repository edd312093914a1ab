"""Trees that stand as told: point 47, and tree_of of nolocktree/trees.py."""

import copy
import unittest

from nolocktree.errors import NoEdge, NoLevel, NoMost, NoNumber, NoPage, NoPlace, NoShape
from nolocktree.pages import Inner, Leaf
from nolocktree.trees import Tree, tree_of
from tests.things import (
    GREATEST, LEAST, Checks, inner_of, leaf_of, no_doers, no_keys, no_numbers, no_pages, odd_things, spread,
    told_rounds, told_tree)

MILLION = 10 ** 6


def leaf_node():
    """What tells a leaf that is well by itself."""
    return (0, leaf_of([1]), None, None, 0)


class StandingTests(Checks, unittest.TestCase):
    def nodes(self):
        """Nodes in the places 1, 3 and 4, and free places."""
        return [7, (0, leaf_of([1, 2]), 5, 4, 3), 0, (1, inner_of([5], 8), None, None, 0),
                (0, Leaf([5], [6]), None, None, MILLION), MILLION]

    def test_all_that_is_told(self):
        for nodes in (self.nodes(), tuple(self.nodes())):
            tree = tree_of(4, 3, 9, nodes)
            self.assertIs(type(tree), Tree)
            self.assertEqual((tree.most(), tree.top(), tree.places()), (4, 3, [1, 3, 4]))
            self.assertEqual(told_rounds(tree.rounds()), (9, [1, 3, 4], [], [0, 2, 5], []))
            self.assertEqual(tree.node(1), (0, [1, 2], [10001, 10002], 5, 4, 3, None, False))
            self.assertEqual(tree.node(3), (1, [5], [8, 9], None, None, 0, None, False))
            self.assertEqual(tree.node(4), (0, [5], [6], None, None, MILLION, None, False))
            self.check_page(tree.page(3), Inner, [5], [8, 9])
            for place in (0, 2, 5, 6):
                self.check_refused(NoPlace, "found", place, tree.node, place)

    def test_places_are_given_from_the_free_ones_on_with_their_versions(self):
        tree = tree_of(4, 3, 9, self.nodes())
        made = [tree.made(0, leaf_of([]), None, None) for turn in range(5)]
        self.assertEqual(made, [0, 2, 5, 6, 7])
        self.assertEqual([tree.node(place)[5] for place in made], [7, 0, MILLION, 0, 0])

    def test_the_lap_goes_on(self):
        tree = tree_of(4, 3, 9, self.nodes())
        tree.enter(2)
        tree.hold(4, 2)
        tree.go(4, 2)
        self.assertEqual(told_rounds(tree.rounds()), (10, [1, 3], [(4, 9)], [0, 2, 5], [(2, 9)]))
        self.assertEqual(tree.node(4)[5], MILLION + 1)

    def test_it_is_held_and_written_like_any_tree(self):
        tree = tree_of(4, 3, 9, self.nodes())
        tree.hold(1, 0)
        tree.write(1, 0, leaf_of([4]), None, None)
        tree.free(1, 0)
        self.assertEqual(tree.node(1), (0, [4], [10004], None, None, 4, None, False))

    def test_a_new_tree_told_again(self):
        for most in (2, 3, 4, 5):
            told = tree_of(most, 0, 0, [(0, leaf_of([]), None, None, 0)])
            self.assertEqual(told_tree(told), told_tree(Tree(most)))

    def test_bounds(self):
        for lap in (0, MILLION):
            for level in (1, 60):
                for high in (LEAST, GREATEST):
                    tree = tree_of(2, 0, lap, [(level, inner_of(spread(6), 0), high, 0, MILLION)])
                    self.assertEqual(tree.node(0)[:6], (level, spread(6), list(range(7)), high, 0, MILLION))
                    self.assertEqual(tree.rounds().lap(), lap)

    def test_a_right_may_be_any_place_with_a_node_and_children_any_places(self):
        tree = tree_of(2, 1, 0, [(0, leaf_of([9]), 5, 1, 0), (7, inner_of([], 10 ** 29), 3, 0, 0)])
        self.assertEqual(tree.node(0)[3:5], (5, 1))
        self.assertEqual(tree.node(1)[:5], (7, [], [10 ** 29], 3, 0))

    def test_four_hundred_places(self):
        nodes = [leaf_node() if place % 3 else place for place in range(400)]
        tree = tree_of(3, 1, 0, nodes)
        self.assertEqual(tree.places(), [place for place in range(400) if place % 3])
        self.assertEqual(tree.rounds().free(), list(range(0, 400, 3)))
        self.assertEqual(tree.made(0, leaf_of([]), None, None), 0)

    def test_nothing_is_kept_of_the_list_nor_changed_in_it(self):
        nodes = self.nodes()
        before = list(nodes)
        tree = tree_of(4, 3, 9, nodes)
        told = told_tree(tree)
        self.assertEqual([one is two for one, two in zip(nodes, before)], [True] * 6)
        nodes[1] = leaf_node()
        nodes.clear()
        self.assertEqual(told_tree(tree), told)
        self.assertEqual(tree.made(0, leaf_of([]), None, None), 0)
        self.assertEqual(tree.node(0)[5], 7)

    def test_what_is_done_to_the_tree_changes_no_list(self):
        nodes = self.nodes()
        before = list(nodes)
        tree = tree_of(4, 3, 9, nodes)
        tree.made(0, leaf_of([]), None, None)
        tree.hold(1, 0)
        tree.write(1, 0, leaf_of([]), None, None)
        tree.free(1, 0)
        self.assertEqual(nodes, before)

    def test_two_of_the_same_nodes_have_nothing_in_common(self):
        nodes = self.nodes()
        first, second = tree_of(4, 3, 9, nodes), tree_of(4, 3, 9, nodes)
        before = told_tree(second)
        first.made(0, leaf_of([]), None, None)
        first.hold(1, 0)
        first.go(1, 0)
        first.enter(3)
        self.assertEqual(told_tree(second), before)

    def test_a_twin_stands_alike_and_goes_its_own_way(self):
        tree = tree_of(4, 3, 9, self.nodes())
        before = told_tree(tree)
        twin = tree.twin()
        self.assertEqual(told_tree(twin), before)
        twin.made(0, leaf_of([]), None, None)
        self.assertEqual(twin.node(0)[5], 7)
        self.assertEqual(told_tree(tree), before)


class RefusalTests(Checks, unittest.TestCase):
    def test_no_most_comes_first(self):
        for thing in no_numbers() + [-3, 0, 1, 6, 10 ** 29]:
            self.check_refused(NoMost, "found", thing, tree_of, thing, 0, 0, [leaf_node()])
            self.check_refused(NoMost, "found", thing, tree_of, thing, "top", "lap", "nodes")

    def test_then_nodes_that_are_no_row_or_have_nothing(self):
        for thing in odd_things() + [0, 5, 10 ** 29, [], ()]:
            self.check_refused(NoShape, "found", thing, tree_of, 3, 0, 0, thing)
            self.check_refused(NoShape, "found", thing, tree_of, 3, "top", "lap", thing)

    def test_then_what_is_neither_a_tuple_of_five_nor_a_version(self):
        things = [one for one in no_doers() if not isinstance(one, tuple)]
        things += [(), (1,), leaf_node()[:4], leaf_node() + (1,), list(leaf_node()), (leaf_node(),), [leaf_node()]]
        for thing in things:
            for nodes in ([thing], (leaf_node(), thing), [3, thing, ("bad",)]):
                self.check_refused(NoShape, "found", thing, tree_of, 3, "top", "lap", nodes)

    def test_then_levels(self):
        for thing in no_numbers() + [-1, 61, 10 ** 29]:
            for node in ((thing, leaf_of([]), None, None, 0), (thing, "page", 1, None, "version")):
                self.check_refused(NoLevel, "found", thing, tree_of, 3, "top", "lap", [leaf_node(), node, ()])

    def test_then_pages(self):
        leaf, inner = leaf_of([1]), inner_of([1], 0)
        wrong = [(level, thing) for thing in no_pages() for level in (0, 1, 60)]
        wrong += [(0, inner), (1, leaf), (60, leaf)]
        for level, thing in wrong:
            for node in ((level, thing, None, None, 0), (level, thing, 1, None, "version")):
                self.check_refused(NoPage, "found", thing, tree_of, 3, "top", "lap", [leaf_node(), node, ()])

    def test_then_versions(self):
        for thing in no_doers():
            for node in ((0, leaf_of([]), None, None, thing), (1, inner_of([], 0), 1, None, thing)):
                self.check_refused(NoNumber, "found", thing, tree_of, 3, "top", "lap", [leaf_node(), node, ()])

    def test_place_by_place_each_whole_ahead_of_the_next(self):
        bad_level = ("level", leaf_of([]), None, None, 0)
        bad_version = (0, leaf_of([]), None, None, "version")
        self.check_refused(NoNumber, "found", "version", tree_of, 3, 0, 0, [bad_version, bad_level])
        self.check_refused(NoLevel, "found", "level", tree_of, 3, 0, 0, [bad_level, bad_version])
        self.check_refused(NoLevel, "found", "level", tree_of, 3, 0, 0, [bad_level, "shape"])
        self.check_refused(NoShape, "found", "shape", tree_of, 3, 0, 0, ["shape", bad_level])

    def test_edges_come_behind_all_places(self):
        bad_edge = (0, leaf_of([]), 5, None, 0)
        bad_level = ("level", leaf_of([]), None, None, 0)
        self.check_refused(NoLevel, "found", "level", tree_of, 3, 0, 0, [bad_edge, bad_level])
        self.check_refused(NoShape, "found", "shape", tree_of, 3, 0, 0, [bad_edge, "shape"])

    def test_edges(self):
        pairs = [(None, 0), (5, None), (5, 1), (5, 3), (5, -1), (LEAST - 1, 0), (GREATEST + 1, 0), (5, 10 ** 29)]
        pairs += [(thing, 0) for thing in no_keys()] + [(5, thing) for thing in no_numbers()]
        for high, right in pairs:
            nodes = [leaf_node(), 4, (0, leaf_of([]), high, right, 0)]
            fields = {"high": high, "right": right}
            self.check_fields(NoEdge, fields, tree_of, 3, 0, 0, nodes)
            self.check_fields(NoEdge, fields, tree_of, 3, "top", "lap", nodes)

    def test_the_first_wrong_edge(self):
        first, second = (0, leaf_of([]), 5, 7, 0), (0, leaf_of([]), 6, 8, 0)
        self.check_fields(NoEdge, {"high": 5, "right": 7}, tree_of, 3, 0, 0, [leaf_node(), first, second])
        self.check_fields(NoEdge, {"high": 6, "right": 8}, tree_of, 3, 0, 0, [leaf_node(), second, first])

    def test_then_the_top(self):
        nodes = [4, leaf_node(), 0, leaf_node()]
        for thing in no_numbers() + [-1, 0, 2, 4, 10 ** 29]:
            self.check_refused(NoPlace, "found", thing, tree_of, 3, thing, 0, nodes)
            self.check_refused(NoPlace, "found", thing, tree_of, 3, thing, "lap", nodes)

    def test_free_places_alone_have_no_top(self):
        for top in (0, 1, 2, None):
            self.check_refused(NoPlace, "found", top, tree_of, 3, top, 0, [0, 0])

    def test_then_the_lap(self):
        for thing in no_doers():
            self.check_refused(NoNumber, "found", thing, tree_of, 3, 0, thing, [leaf_node()])

    def test_what_is_refused_is_not_changed(self):
        nodes = [leaf_node(), 5, [1, [2]]]
        before = copy.deepcopy(nodes[1:])
        self.check_refused(NoShape, "found", nodes[2], tree_of, 3, 0, 0, nodes)
        self.assertEqual(nodes[1:], before)
        self.assertEqual(len(nodes), 3)


if __name__ == "__main__":
    unittest.main()
