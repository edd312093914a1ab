"""Trees and the deeds that change them: points 40 to 43, and class Tree of nolocktree/trees.py."""

import unittest

from nolocktree.errors import Held, NoDoer, NoEdge, NoLevel, NoMost, NoPage, NoPlace, NotHeld, Twice
from nolocktree.pages import Inner, Leaf
from nolocktree.rounds import Rounds
from nolocktree.trees import Tree
from tests.things import (
    GREATEST, LEAST, Checks, inner_of, leaf_of, no_doers, no_keys, no_numbers, no_pages, refusal, spread, tall_tree,
    told_rounds, told_tree)


def row_of_leaves(many):
    """A tree with so many leaves beside its first one, in the places from 1 on, nobody's neighbours."""
    tree = Tree(3)
    for place in range(1, many + 1):
        tree.made(0, leaf_of([10 * place]), None, None)
    return tree


def busy_tree():
    """A tree with a held and written node in place 2, a kept place 1 and a free place 3; calls 5 and 6 go on."""
    tree = row_of_leaves(4)
    tree.hold(3, 5)
    tree.go(3, 5)
    tree.enter(5)
    tree.enter(6)
    tree.hold(1, 5)
    tree.go(1, 5)
    tree.hold(2, 6)
    tree.write(2, 6, leaf_of([7]), 9, 4)
    return tree


def no_edges():
    """Pairs of high and right, each amiss in a tree whose places in use are 0, 2 and 4."""
    pairs = [(None, 0), (5, None), (None, 1), (5, 1), (5, 3), (5, 5), (5, -1), (True, 0), (5, True), (5, False)]
    pairs += [(LEAST - 1, 0), (GREATEST + 1, 0), (5, 10 ** 29), ((), ()), ([], None), (None, []), ("5", "0")]
    pairs += [(thing, 0) for thing in no_keys()] + [(5, thing) for thing in no_numbers()]
    return pairs


class MakingTests(Checks, unittest.TestCase):
    def test_a_new_tree(self):
        for most in (2, 3, 4, 5):
            tree = Tree(most)
            self.assertEqual((tree.most(), tree.top(), tree.places()), (most, 0, [0]))
            self.assertEqual(tree.node(0), (0, [], [], None, None, 0, None, False))
            self.check_page(tree.page(0), Leaf, [], [])
            self.assertEqual(told_rounds(tree.rounds()), (0, [0], [], [], []))

    def test_refuses_what_is_no_most(self):
        for thing in no_numbers() + [-3, 0, 1, 6, 7, 10 ** 29]:
            self.check_refused(NoMost, "found", thing, Tree, thing)

    def test_two_trees_have_nothing_in_common(self):
        first, second = Tree(3), Tree(3)
        before = told_tree(second)
        first.made(0, leaf_of([1]), None, None)
        first.enter(1)
        first.hold(0, 1)
        first.write(0, 1, leaf_of([2]), None, None)
        self.assertEqual(told_tree(second), before)


class NodeTests(Checks, unittest.TestCase):
    def test_kinds_of_what_is_told(self):
        tree = tall_tree()
        for place in tree.places():
            told = tree.node(place)
            self.assertIs(type(told), tuple)
            level, keys, goods, high, right, version, holder, gone = told
            self.assertIs(type(keys), list)
            self.assertIs(type(goods), list)
            self.assertIs(gone, False)
            self.check_page(tree.page(place), Leaf if level == 0 else Inner, keys, goods)

    def test_of_a_kept_place(self):
        tree = busy_tree()
        self.assertEqual(tree.node(1), (0, [10], [10010], None, None, 1, None, True))
        self.assertIs(tree.node(1)[7], True)
        self.check_page(tree.page(1), Leaf, [10], [10010])

    def test_refuses_what_is_neither_in_use_nor_kept(self):
        tree = busy_tree()
        for thing in no_numbers() + [-1, 3, 5, 10 ** 29]:
            self.check_refused(NoPlace, "found", thing, tree.node, thing)
            self.check_refused(NoPlace, "found", thing, tree.page, thing)

    def test_a_place_that_became_free_tells_no_node(self):
        tree = busy_tree()
        tree.leave(5)
        self.assertEqual(tree.node(1)[7], True)
        tree.leave(6)
        self.check_refused(NoPlace, "found", 1, tree.node, 1)
        self.check_refused(NoPlace, "found", 1, tree.page, 1)

    def test_told_lists_are_the_askers_own(self):
        tree = tall_tree()
        before = told_tree(tree)
        for place in tree.places():
            first, second = tree.node(place), tree.node(place)
            self.assertIsNot(first[1], second[1])
            self.assertIsNot(first[2], second[2])
            first[1].append(5)
            first[2].clear()
        tree.places().clear()
        self.assertIsNot(tree.places(), tree.places())
        self.assertEqual(told_tree(tree), before)


class MadeTests(Checks, unittest.TestCase):
    def test_places_levels_and_pages(self):
        tree = Tree(3)
        for place, level in enumerate((0, 1, 2, 59, 60), 1):
            page = leaf_of(spread(place)) if level == 0 else inner_of(spread(place), 40)
            self.assertEqual(tree.made(level, page, 7, 0), place)
            self.assertEqual(tree.node(place), (level, page.all_keys(), page.goods(), 7, 0, 0, None, False))
            self.assertIs(tree.page(place).same(page), True)
        self.assertEqual(tree.places(), [0, 1, 2, 3, 4, 5])
        self.assertEqual(tree.top(), 0)

    def test_pages_of_none_and_of_six_keys(self):
        tree = Tree(2)
        for many in (0, 6):
            leaf = tree.made(0, leaf_of(spread(many)), None, None)
            inner = tree.made(1, inner_of(spread(many), 100), None, None)
            self.assertEqual(tree.node(leaf)[1], spread(many))
            self.assertEqual(tree.node(inner)[2], list(range(100, 101 + many)))

    def test_highs_at_either_bound_and_any_right_in_use(self):
        tree = row_of_leaves(3)
        for high in (LEAST, -1, 0, GREATEST):
            for right in (0, 1, 2, 3):
                place = tree.made(0, leaf_of([]), high, right)
                self.assertEqual(tree.node(place)[3:5], (high, right))

    def test_the_version_of_a_place_that_is_given_again(self):
        tree = Tree(3)
        place = tree.made(0, leaf_of([]), None, None)
        for version in (0, 2, 4):
            self.assertEqual(tree.node(place)[5], version)
            tree.hold(place, 1)
            tree.write(place, 1, leaf_of([1]), None, None)
            tree.free(place, 1)
            self.assertEqual(tree.node(place)[5], version + 1)
            tree.hold(place, 1)
            tree.go(place, 1)
            self.assertEqual(tree.made(0, leaf_of([]), None, None), place)
        self.assertEqual(tree.made(0, leaf_of([]), None, None), 2)
        self.assertEqual(tree.node(2)[5], 0)

    def test_a_node_in_a_place_given_again_has_nothing_of_the_old_one_but_the_version(self):
        tree = busy_tree()
        tree.leave(5)
        tree.leave(6)
        self.assertEqual(tree.made(2, inner_of([3], 8), None, None), 1)
        self.assertEqual(tree.node(1), (2, [3], [8, 9], None, None, 1, None, False))

    def test_a_written_node_that_went_leaves_no_mark_on_the_next_one(self):
        tree = row_of_leaves(1)
        tree.hold(1, 3)
        tree.write(1, 3, leaf_of([4]), None, None)
        tree.go(1, 3)
        tree.made(0, leaf_of([5]), None, None)
        self.assertEqual(tree.node(1)[5], 1)
        tree.hold(1, 3)
        tree.free(1, 3)
        self.assertEqual(tree.node(1), (0, [5], [10005], None, None, 1, None, False))

    def test_refuses_levels_then_pages_then_edges(self):
        tree = busy_tree()
        before = told_tree(tree)
        for thing in no_numbers() + [-1, 61, 10 ** 29]:
            self.check_refused(NoLevel, "found", thing, tree.made, thing, leaf_of([]), None, None)
            self.check_refused(NoLevel, "found", thing, tree.made, thing, "page", 1, None)
        for thing in no_pages():
            for level in (0, 1, 60):
                self.check_refused(NoPage, "found", thing, tree.made, level, thing, None, None)
                self.check_refused(NoPage, "found", thing, tree.made, level, thing, 1, None)
        leaf, inner = leaf_of([1]), inner_of([1], 0)
        self.check_refused(NoPage, "found", inner, tree.made, 0, inner, None, None)
        for level in (1, 2, 60):
            self.check_refused(NoPage, "found", leaf, tree.made, level, leaf, None, None)
        for high, right in no_edges():
            self.check_fields(NoEdge, {"high": high, "right": right}, tree.made, 0, leaf, high, right)
            self.check_fields(NoEdge, {"high": high, "right": right}, tree.made, 3, inner, high, right)
        self.assertEqual(told_tree(tree), before)

    def test_the_right_is_no_place_that_is_about_to_be_given(self):
        tree = Tree(3)
        self.check_fields(NoEdge, {"high": 5, "right": 1}, tree.made, 0, leaf_of([]), 5, 1)
        self.assertEqual(tree.places(), [0])


class HoldTests(Checks, unittest.TestCase):
    def test_the_holder_is_told_and_nothing_else_changes(self):
        for number in (0, 1, 10 ** 6):
            tree = row_of_leaves(1)
            before = tree.node(1)
            self.assertIsNone(tree.hold(1, number))
            self.assertEqual(tree.node(1), before[:6] + (number, False))
            self.assertIsNone(tree.node(0)[6])

    def test_a_doer_may_hold_several_nodes(self):
        tree = row_of_leaves(2)
        for place in (0, 1, 2):
            tree.hold(place, 4)
        self.assertEqual([tree.node(place)[6] for place in (0, 1, 2)], [4, 4, 4])

    def test_refuses_a_held_one_also_to_its_holder(self):
        tree = row_of_leaves(1)
        holder = int("123456")
        tree.hold(1, holder)
        for number in (0, 7, holder):
            self.check_fields(Held, {"place": 1, "holder": holder}, tree.hold, 1, number)
        self.assertEqual(tree.node(1)[6], holder)

    def test_the_refused_place_is_the_very_one(self):
        tree = row_of_leaves(400)
        tree.hold(int("300"), 0)
        place = int("300")
        self.check_fields(Held, {"place": place, "holder": 0}, tree.hold, place, 1)
        number = int("1000")
        self.check_fields(NotHeld, {"place": place, "doer": number}, tree.free, place, number)


class WriteTests(Checks, unittest.TestCase):
    def test_page_high_and_right(self):
        tree = row_of_leaves(2)
        tree.hold(1, 3)
        for high, right in ((5, 2), (LEAST, 0), (GREATEST, 1), (None, None)):
            key = 0 if high is None else high
            self.assertIsNone(tree.write(1, 3, Leaf([key], [key]), high, right))
            self.assertEqual(tree.node(1), (0, [key], [key], high, right, 0, 3, False))

    def test_inner_nodes_and_pages_of_six_keys(self):
        tree = Tree(2)
        place = tree.made(3, inner_of([], 7), None, None)
        tree.hold(place, 0)
        tree.write(place, 0, inner_of(spread(6), 20), None, None)
        self.assertEqual(tree.node(place)[:3], (3, spread(6), list(range(20, 27))))

    def test_the_version_is_one_greater_when_it_is_freed_behind_however_many_writes(self):
        tree = row_of_leaves(1)
        tree.hold(1, 3)
        for turn in range(3):
            tree.write(1, 3, leaf_of([turn]), None, None)
            self.assertEqual(tree.node(1)[5], 0)
        tree.free(1, 3)
        self.assertEqual(tree.node(1), (0, [2], [10002], None, None, 1, None, False))

    def test_a_write_of_the_same_counts(self):
        tree = row_of_leaves(1)
        tree.hold(1, 3)
        tree.write(1, 3, tree.page(1), None, None)
        tree.free(1, 3)
        self.assertEqual(tree.node(1)[5], 1)


class FreeTests(Checks, unittest.TestCase):
    def test_unwritten_it_keeps_its_version(self):
        tree = row_of_leaves(1)
        before = tree.node(1)
        tree.hold(1, 3)
        self.assertIsNone(tree.free(1, 3))
        self.assertEqual(tree.node(1), before)

    def test_what_was_written_under_an_earlier_hold_does_not_count(self):
        tree = row_of_leaves(1)
        tree.hold(1, 3)
        tree.write(1, 3, leaf_of([1]), None, None)
        tree.free(1, 3)
        tree.hold(1, 4)
        tree.free(1, 4)
        self.assertEqual(tree.node(1)[5], 1)

    def test_it_may_be_held_again_by_another(self):
        tree = row_of_leaves(1)
        for number in (3, 4, 3):
            tree.hold(1, number)
            self.assertEqual(tree.node(1)[6], number)
            tree.free(1, number)


class GoTests(Checks, unittest.TestCase):
    def test_it_is_gone_and_its_place_is_kept(self):
        tree = row_of_leaves(2)
        tree.enter(8)
        tree.hold(1, 3)
        self.assertIsNone(tree.go(1, 3))
        self.assertEqual(tree.node(1), (0, [10], [10010], None, None, 1, None, True))
        self.assertEqual(tree.places(), [0, 2])
        self.assertEqual(told_rounds(tree.rounds()), (1, [0, 2], [(1, 0)], [], [(8, 0)]))

    def test_its_place_is_free_at_once_where_no_call_goes_on(self):
        tree = row_of_leaves(2)
        tree.hold(1, 3)
        tree.go(1, 3)
        self.assertEqual(told_rounds(tree.rounds()), (1, [0, 2], [], [1], []))

    def test_written_or_not_the_version_is_one_greater(self):
        for writes in (0, 1, 2):
            tree = row_of_leaves(1)
            tree.enter(0)
            tree.hold(1, 3)
            for turn in range(writes):
                tree.write(1, 3, leaf_of([turn]), 5, 0)
            tree.go(1, 3)
            self.assertEqual(tree.node(1)[5:], (1, None, True))

    def test_the_top_does_not_go(self):
        tree = row_of_leaves(1)
        tree.hold(0, 3)
        before = told_tree(tree)
        for number in (3, 4, "x", None):
            self.check_refused(NoPlace, "found", 0, tree.go, 0, number)
        self.assertEqual(told_tree(tree), before)
        tree.lead(0, 1)
        tree.hold(1, 3)
        self.check_refused(NoPlace, "found", 1, tree.go, 1, 3)
        tree.go(0, 3)
        self.assertEqual(tree.places(), [1])


class LeadTests(Checks, unittest.TestCase):
    def test_led_from_the_top(self):
        tree = row_of_leaves(2)
        self.assertIs(tree.lead(0, 2), True)
        self.assertEqual(tree.top(), 2)
        self.assertIs(tree.lead(2, 2), True)
        self.assertEqual(tree.top(), 2)

    def test_led_from_another_place(self):
        tree = row_of_leaves(2)
        before = told_tree(tree)
        for old, new in ((1, 2), (2, 1), (1, 0), (1, 1)):
            self.assertIs(tree.lead(old, new), False)
            self.assertEqual(told_tree(tree), before)

    def test_held_nodes_and_other_levels_may_be_led_to(self):
        tree = Tree(3)
        place = tree.made(60, inner_of([1], 0), None, None)
        tree.hold(place, 4)
        self.assertIs(tree.lead(0, place), True)
        self.assertEqual(tree.top(), place)

    def test_refuses_the_old_place_first_and_then_the_new_one(self):
        tree = busy_tree()
        before = told_tree(tree)
        for thing in no_numbers() + [-1, 1, 3, 5, 10 ** 29]:
            self.check_refused(NoPlace, "found", thing, tree.lead, thing, 2)
            self.check_refused(NoPlace, "found", thing, tree.lead, thing, "new")
            for old in (0, 2):
                self.check_refused(NoPlace, "found", thing, tree.lead, old, thing)
        self.assertEqual(told_tree(tree), before)


class OrderTests(Checks, unittest.TestCase):
    """Which refusal comes first, and that nothing is changed by one."""

    def deeds(self, tree):
        """Each deed by a place and a number, the others of its arguments amiss."""
        return [tree.hold, tree.free, tree.go, lambda place, number: tree.write(place, number, "page", 1, None)]

    def test_places_come_first(self):
        tree = busy_tree()
        before = told_tree(tree)
        for thing in no_numbers() + [-1, 1, 3, 5, 10 ** 29]:
            for deed in self.deeds(tree):
                for number in (6, 5, "x", -1):
                    self.check_refused(NoPlace, "found", thing, deed, thing, number)
        self.assertEqual(told_tree(tree), before)

    def test_then_numbers(self):
        tree = busy_tree()
        before = told_tree(tree)
        for thing in no_doers():
            for deed in self.deeds(tree):
                for place in (2, 4):
                    self.check_refused(NoDoer, "found", thing, deed, place, thing)
        self.assertEqual(told_tree(tree), before)

    def test_then_who_holds(self):
        tree = busy_tree()
        before = told_tree(tree)
        for deed in self.deeds(tree)[1:]:
            for place, number in ((2, 5), (2, 0), (4, 6), (4, 0)):
                self.check_fields(NotHeld, {"place": place, "doer": number}, deed, place, number)
        self.assertEqual(told_tree(tree), before)

    def test_then_pages_and_then_edges(self):
        tree = busy_tree()
        before = told_tree(tree)
        inner = inner_of([1], 0)
        for thing in no_pages() + [inner]:
            for high, right in ((None, None), (1, None)):
                self.check_refused(NoPage, "found", thing, tree.write, 2, 6, thing, high, right)
        for high, right in no_edges():
            self.check_fields(NoEdge, {"high": high, "right": right}, tree.write, 2, 6, leaf_of([3]), high, right)
        self.assertEqual(told_tree(tree), before)
        place = tree.made(1, inner, None, None)
        tree.hold(place, 6)
        leaf = leaf_of([1])
        self.check_refused(NoPage, "found", leaf, tree.write, place, 6, leaf, None, None)

    def test_a_refused_write_does_not_count(self):
        tree = row_of_leaves(1)
        tree.hold(1, 6)
        refusal(tree.write, 1, 6, "page", None, None)
        refusal(tree.write, 1, 6, leaf_of([3]), 1, None)
        tree.free(1, 6)
        self.assertEqual(tree.node(1), (0, [10], [10010], None, None, 0, None, False))

    def test_enter_and_leave(self):
        tree = busy_tree()
        before = told_tree(tree)
        for thing in no_doers():
            self.check_refused(NoDoer, "found", thing, tree.enter, thing)
            self.check_refused(NoDoer, "found", thing, tree.leave, thing)
        for thing in (5, 6):
            self.check_refused(Twice, "found", thing, tree.enter, thing)
        for thing in (0, 7, 10 ** 6):
            self.check_refused(NoDoer, "found", thing, tree.leave, thing)
        self.assertEqual(told_tree(tree), before)


class CallTests(unittest.TestCase):
    def test_calls_enter_leave_and_enter_again(self):
        tree = Tree(3)
        self.assertIsNone(tree.enter(4))
        tree.enter(0)
        self.assertEqual(tree.rounds().going(), [(4, 0), (0, 0)])
        self.assertIsNone(tree.leave(4))
        tree.enter(4)
        self.assertEqual(tree.rounds().going(), [(0, 0), (4, 0)])

    def test_a_kept_place_is_free_when_the_last_call_leaves(self):
        tree = busy_tree()
        tree.enter(9)
        tree.leave(5)
        self.assertEqual(tree.rounds().kept(), [(1, 1)])
        tree.leave(6)
        self.assertEqual(told_rounds(tree.rounds()), (2, [0, 2, 4], [], [1, 3], [(9, 2)]))
        self.assertEqual(tree.made(0, leaf_of([]), None, None), 1)

    def test_a_hold_is_not_a_call_that_goes_on(self):
        tree = row_of_leaves(2)
        tree.hold(2, 5)
        self.assertEqual(tree.rounds().going(), [])
        tree.hold(1, 5)
        tree.go(1, 5)
        self.assertEqual(tree.rounds().free(), [1])


class TwinTests(Checks, unittest.TestCase):
    def deeds(self):
        """Deeds that each change a busy tree."""
        return [
            lambda tree: tree.made(0, leaf_of([1]), None, None), lambda tree: tree.hold(4, 5),
            lambda tree: tree.write(2, 6, leaf_of([8]), None, None), lambda tree: tree.free(2, 6),
            lambda tree: tree.go(2, 6), lambda tree: tree.lead(0, 4), lambda tree: tree.enter(1),
            lambda tree: tree.leave(5)]

    def test_a_twin_tells_the_same(self):
        for tree in (Tree(2), tall_tree(), busy_tree()):
            twin = tree.twin()
            self.assertIs(type(twin), Tree)
            self.assertIsNot(twin, tree)
            self.assertEqual(told_tree(twin), told_tree(tree))

    def test_each_goes_its_own_way(self):
        self.check_own_ways(busy_tree, told_tree, self.deeds(), lambda tree: tree.made(0, leaf_of([2]), None, None))

    def test_a_twin_knows_what_was_written_since_it_was_held(self):
        tree = busy_tree()
        twin = tree.twin()
        twin.free(2, 6)
        self.assertEqual(twin.node(2)[5], 1)
        tree = row_of_leaves(1)
        tree.hold(1, 6)
        twin = tree.twin()
        twin.free(1, 6)
        self.assertEqual(twin.node(1)[5], 0)

    def test_a_twin_knows_the_versions_of_free_places(self):
        tree = busy_tree()
        twin = tree.twin()
        for one in (tree, twin):
            self.assertEqual(one.made(0, leaf_of([]), None, None), 3)
            self.assertEqual(one.node(3)[5], 1)

    def test_the_told_rounds_are_a_twin(self):
        tree = busy_tree()
        before = told_tree(tree)
        rounds = tree.rounds()
        self.assertIs(type(rounds), Rounds)
        rounds.given()
        rounds.enter(1)
        rounds.leave(5)
        rounds.went(0)
        self.assertEqual(told_tree(tree), before)
        rounds = tree.rounds()
        tree.enter(1)
        self.assertEqual(rounds.going(), [(5, 1), (6, 1)])


class KeptCopyTests(unittest.TestCase):
    def test_lists_of_which_a_page_was_made_change_no_node(self):
        keys, goods = [1, 2], [3, 4]
        tree = Tree(3)
        place = tree.made(0, Leaf(keys, goods), None, None)
        keys.append(5)
        goods.clear()
        self.assertEqual(tree.node(place)[1:3], ([1, 2], [3, 4]))


if __name__ == "__main__":
    unittest.main()
