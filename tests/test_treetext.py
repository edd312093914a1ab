"""Trees as texts: points 7, 110 and 111, and the interface of nolocktree/treetext.py."""

import random
import unittest

from nolocktree.errors import BadLine, Going, Held, NoText, NoTree, TooMany
from nolocktree.pages import Inner, Leaf
from nolocktree.puts import Put
from nolocktree.shapes import is_shaped, levels_of, pairs_of
from nolocktree.trees import Tree, tree_of
from nolocktree.treetext import read_tree, write_tree
from tests.test_promise import drawn_of_all
from tests.things import (
    GREATEST, LEAST, Checks, even_tree, leaf_of, no_numbers, one_leaf, refusal, run_calls, scene_of, tall_tree,
    told_tree, tower)

TEXT = "\n".join([
    "tree 3 5 7",
    "leaf 0 10 1 1 11 5 15",
    "leaf 4 20 3 10 -110",
    "free 9",
    "leaf 1000000 - - 20 0 30 1 40 2",
    "free 0",
    "inner 1 2 - - 0 10 1 20 3",
])


def tree_of_text():
    """The tree that TEXT writes."""
    return tree_of(3, 5, 7, [
        (0, Leaf([1, 5], [11, 15]), 10, 1, 0), (0, Leaf([10], [-110]), 20, 3, 4), 9,
        (0, Leaf([20, 30, 40], [0, 1, 2]), None, None, 10 ** 6), 0, (1, Inner([10, 20], [0, 1, 3]), None, None, 2)])


def with_row(at, row):
    """TEXT with another row."""
    rows = TEXT.split("\n")
    rows[at] = row
    return "\n".join(rows)


def with_word(at, word, other):
    """TEXT with another word in a row, both counted from 0."""
    words = TEXT.split("\n")[at].split(" ")
    words[word] = other
    return with_row(at, " ".join(words))


class WriteTests(unittest.TestCase):
    def test_a_new_tree(self):
        for most in (2, 3, 4, 5):
            self.assertEqual(write_tree(Tree(most)), f"tree {most} 0 0\nleaf 0 - -")

    def test_leaves_inner_nodes_and_free_places(self):
        self.assertEqual(write_tree(tree_of_text()), TEXT)

    def test_a_tree_that_puts_have_made(self):
        scene = scene_of(Tree(2))
        run_calls(scene, Put(5, 50), Put(-9, 90), Put(7, -70))
        self.assertEqual(write_tree(scene.tree()),
                         "tree 2 2 0\nleaf 3 7 1 -9 90 5 50\nleaf 0 - - 7 -70\ninner 1 0 - - 0 7 1")

    def test_keys_at_either_bound(self):
        tree = tree_of(2, 0, 0, [(0, Leaf([LEAST], [GREATEST]), GREATEST, 1, 0), (0, Leaf([], []), None, None, 0)])
        self.assertEqual(write_tree(tree), "tree 2 0 0\nleaf 0 999999999 1 -999999999 999999999\nleaf 0 - -")

    def test_inner_nodes_without_keys_and_of_high_levels(self):
        self.assertEqual(write_tree(tower(2)), "tree 2 2 0\nleaf 0 - - 5 10005\ninner 1 0 - - 0\ninner 2 0 - - 1")
        tree = Tree(3)
        tree.made(60, Inner([4], [10 ** 29, 7]), 0, 0)
        self.assertEqual(write_tree(tree), f"tree 3 0 0\nleaf 0 - -\ninner 60 0 0 0 {10 ** 29} 4 7")

    def test_a_node_that_went(self):
        tree = Tree(3)
        place = tree.made(0, leaf_of([]), None, None)
        tree.hold(place, 4)
        tree.go(place, 4)
        self.assertEqual(write_tree(tree), "tree 3 0 1\nleaf 0 - -\nfree 1")

    def test_a_node_whose_right_is_no_place_in_use_is_written_but_not_read(self):
        tree = Tree(3)
        right = tree.made(0, leaf_of([]), None, None)
        tree.made(0, leaf_of([]), 5, right)
        tree.hold(right, 0)
        tree.go(right, 0)
        text = write_tree(tree)
        self.assertEqual(text, "tree 3 0 1\nleaf 0 - -\nfree 1\nleaf 0 5 1")
        self.assertEqual(refusal(read_tree, text).row, 3)

    def test_trees_without_a_shape_are_written(self):
        tree = Tree(2)
        tree.made(0, leaf_of([1, 2, 3, 4, 5, 6]), None, None)
        tree.made(3, Inner([], [99]), None, None)
        self.assertIs(is_shaped(tree), False)
        self.assertEqual(told_tree(read_tree(write_tree(tree))), told_tree(tree))

    def test_the_tree_stays_as_it_is(self):
        tree = tree_of_text()
        before = told_tree(tree)
        write_tree(tree)
        self.assertEqual(told_tree(tree), before)
        self.assertEqual(write_tree(tree), write_tree(tree.twin()))


class WriteRefusedTests(Checks, unittest.TestCase):
    def test_what_is_no_tree(self):
        for thing in no_numbers() + [0, TEXT]:
            if not isinstance(thing, Tree):
                self.check_refused(NoTree, "found", thing, write_tree, thing)

    def test_then_a_held_node_the_least_place(self):
        tree = tall_tree()
        tree.enter(7)
        tree.hold(9, 3)
        self.check_fields(Held, {"place": 9, "holder": 3}, write_tree, tree)
        tree.hold(2, 0)
        before = told_tree(tree)
        self.check_fields(Held, {"place": 2, "holder": 0}, write_tree, tree)
        self.assertEqual(told_tree(tree), before)

    def test_then_a_call_that_goes_on_the_first_one(self):
        tree = Tree(2)
        for number in (5, 3, 9):
            tree.enter(number)
        self.check_fields(Going, {"doer": 5}, write_tree, tree)
        tree.leave(5)
        self.check_fields(Going, {"doer": 3}, write_tree, tree)

    def wide(self, signs):
        """A tree whose text has so many signs, by free places with long and short versions."""
        nodes = [(0, leaf_of([]), None, None, 0)]
        # The rows without free places have 21 signs, each free place 7 more, or up to 13.
        left = signs - len("tree 2 0 0\nleaf 0 - -")
        while left >= 14:
            nodes.append(0)
            left -= 7
        nodes.append(10 ** (left - 7) if left > 7 else 0)
        return tree_of(2, 0, 0, nodes)

    def test_then_more_than_four_thousand_signs(self):
        for signs in (3999, 4000):
            text = write_tree(self.wide(signs))
            self.assertEqual(len(text), signs)
            self.assertEqual(told_tree(read_tree(text)), told_tree(self.wide(signs)))
        for signs in (4001, 4002, 4500):
            tree = self.wide(signs)
            self.check_counted(TooMany, signs, write_tree, tree)
            tree.enter(1)
            self.check_fields(Going, {"doer": 1}, write_tree, tree)


class ReadTests(unittest.TestCase):
    def check_same(self, tree):
        """That the tree is written and read as one that tells the same, and goes on likewise."""
        text = write_tree(tree)
        other = read_tree(text)
        self.assertIs(type(other), Tree)
        self.assertEqual(told_tree(other), told_tree(tree))
        self.assertEqual(write_tree(other), text)
        twin = tree.twin()
        for turn in range(3):
            self.assertEqual(other.made(0, leaf_of([]), None, None), twin.made(0, leaf_of([]), None, None))
        self.assertEqual(told_tree(other), told_tree(twin))

    def test_the_told_text(self):
        self.assertEqual(told_tree(read_tree(TEXT)), told_tree(tree_of_text()))
        self.check_same(tree_of_text())

    def test_shaped_trees(self):
        for tree in (Tree(2), Tree(5), one_leaf([1, 2], 2), even_tree(2), even_tree(4), tall_tree(), tower(20),
                     tower(60)):
            self.check_same(tree)

    def test_a_free_place_goes_on_from_its_version(self):
        tree = read_tree(TEXT)
        self.assertEqual([tree.made(0, leaf_of([]), None, None) for turn in range(3)], [2, 4, 6])
        self.assertEqual([tree.node(place)[5] for place in (2, 4, 6)], [9, 0, 0])
        self.assertEqual(tree.rounds().lap(), 7)

    def test_trees_that_scenes_have_made(self):
        for seed in range(40):
            draw = random.Random(seed)
            tree = draw.choice((Tree(2), Tree(3), even_tree(3, 3), even_tree(2, 5), tall_tree()))
            for stretch in range(3):
                calls = [drawn_of_all(draw, list(range(0, 60, 4))) for turn in range(12)]
                scene = scene_of(tree, *calls, Put(draw.randrange(60), 5), Put(draw.randrange(60), 6))
                while scene.going():
                    scene.turn(draw.choice(scene.ready()))
                tree = scene.tree()
                self.check_same(tree)

    def test_trees_that_deeds_have_made(self):
        for seed in range(40):
            draw = random.Random(seed)
            tree = Tree(draw.choice((2, 3, 4, 5)))
            for turn in range(15):
                place = draw.choice(tree.places())
                keys = sorted(draw.sample(range(-9, 9), draw.randrange(5)))
                edge = draw.choice(((None, None), (draw.randrange(99), 0)))
                if draw.random() < 0.5:
                    level = draw.choice((0, 0, 1, 60))
                    page = leaf_of(keys) if level == 0 else Inner(keys, draw.sample(range(50), len(keys) + 1))
                    tree.made(level, page, *edge)
                elif place != 0:
                    tree.hold(place, 1)
                    if draw.random() < 0.5:
                        tree.write(place, 1, tree.page(place), *edge)
                        tree.free(place, 1)
                    else:
                        tree.go(place, 1)
            self.check_same(tree)

    def test_trees_that_tree_of_has_made(self):
        nodes = [5, (0, leaf_of([]), 3, 3, 10 ** 6), 10 ** 6, (7, Inner([1], [0, 10 ** 29]), None, None, 0), 0]
        for top in (1, 3):
            for lap in (0, 1, 10 ** 6):
                self.check_same(tree_of(5, top, lap, nodes))

    def test_scenes_of_read_trees_go_on_likewise(self):
        for seed in range(10):
            draw = random.Random(seed)
            calls = [drawn_of_all(draw, list(range(0, 60, 4))) for turn in range(12)]
            first, second = scene_of(tall_tree(), *calls), scene_of(read_tree(write_tree(tall_tree())), *calls)
            while first.going():
                number = draw.choice(first.ready())
                self.assertEqual(first.turn(number), second.turn(number))
            self.assertEqual(first.history(), second.history())
            self.assertEqual(told_tree(first.tree()), told_tree(second.tree()))

    def test_most_keys_and_either_bound(self):
        text = f"tree 5 0 0\nleaf 0 {GREATEST} 1 {LEAST} {LEAST} -1 {GREATEST} 0 0 1 -1 2 2 {GREATEST} 3\nleaf 0 - -"
        tree = read_tree(text)
        self.assertEqual(tree.node(0)[1], [LEAST, -1, 0, 1, 2, GREATEST])
        self.assertEqual(write_tree(tree), text)

    def test_what_is_read_needs_no_shape(self):
        tree = read_tree("tree 2 1 0\nfree 3\nleaf 0 - - 1 1 2 2 3 3\ninner 9 0 5 1 7")
        self.assertIs(is_shaped(tree), False)
        self.assertEqual((levels_of(tree), pairs_of(tree)), ([[1]], [(1, 1), (2, 2), (3, 3)]))

    def test_two_reads_have_nothing_in_common(self):
        first, second = read_tree(TEXT), read_tree(TEXT)
        first.made(0, leaf_of([]), None, None)
        first.hold(0, 1)
        self.assertEqual(told_tree(second), told_tree(tree_of_text()))


class ReadRefusedTests(Checks, unittest.TestCase):
    def check_bad(self, row, text):
        """That the text is refused with the number of this row."""
        error = refusal(read_tree, text)
        self.assertIs(type(error), BadLine, text)
        self.assertEqual((vars(error), text), ({"row": row}, text))
        self.assertIs(type(error.row), int)

    def test_what_is_no_text(self):
        for thing in no_numbers() + [0, 7, Tree(2), [TEXT], (TEXT,), {TEXT: TEXT}]:
            if not isinstance(thing, str):
                self.check_refused(NoText, "found", thing, read_tree, thing)

    def test_more_than_four_thousand_signs(self):
        text = TEXT + "\nfree 0" * 600
        for thing in (text[:4001], text[:4002], text, "x" * 4001, "\n" * 4001, " " * 4001):
            self.check_refused(NoText, "found", thing, read_tree, thing)
        self.check_bad(0, "x" * 4000)
        self.check_bad(0, "\n" * 4000)
        self.check_bad(0, "9" * 4000)
        self.check_bad(0, "tree 2 0 " + "9" * 3000)

    def test_no_rows_and_no_nodes(self):
        for text in ("", " ", "\n", "tree", "tree 3 0 0", "tree 3 0 0\n", "tree 3 0 0\nfree 0", "leaf 0 - -",
                     "leaf 0 - -\ntree 3 0 0", "free 0", "Tree 3 0 0\nleaf 0 - -"):
            self.check_bad(0, text)

    def test_the_first_row(self):
        for row in ("tree", "tree 3 5", "tree 3 5 7 7", "tree 3 5 7 ", " tree 3 5 7", "tree  3 5 7", "tree 3 5  7",
                    "tre 3 5 7",
                    "Tree 3 5 7", "trees 3 5 7", "leaf 0 - -", "free 7", "", "tree 3 5 -", "tree - 5 7", "tree 3 - 7"):
            self.check_bad(0, with_row(0, row))
        for most in ("1", "0", "6", "-3", "03", "+3", "3.", "x", "", "--3", "1000"):
            self.check_bad(0, with_word(0, 1, most))
        for most in ("2", "3", "4", "5"):
            self.assertEqual(read_tree(with_word(0, 1, most)).most(), int(most))
        for top in ("2", "4", "6", "7", "-1", "05", "+5", "x", "", "9" * 30, "9" * 31, "-0"):
            self.check_bad(0, with_word(0, 2, top))
        for top in ("0", "1", "3", "5"):
            self.assertEqual(read_tree(with_word(0, 2, top)).top(), int(top))
        for lap in ("1000001", "-1", "07", "+7", "x", "", "-0", "00", "9" * 30, "9" * 31):
            self.check_bad(0, with_word(0, 3, lap))
        for lap in ("0", "1000000"):
            self.assertEqual(read_tree(with_word(0, 3, lap)).rounds().lap(), int(lap))

    def test_rows_of_other_forms(self):
        # The rows 2, 4 and 6 are those of nodes of which the rows 1, 2 and 0 tell as a right or as the top.
        for at, bad in ((1, 1), (2, 1), (3, 3), (4, 2), (5, 5), (6, 0)):
            for row in ("tree 3 5 7", "node 0 - -", "0", "-", "x y z", "Free 0", "kept 0", ""):
                self.check_bad(bad, with_row(at, row))
        # What stands behind the first word does not make up for it.
        for row in ("node 1 2 - - 0", "fre 0", "leafs 0 - -", "inners 1 0 - - 0", "1 2 - - 0", "tree 3 0 0"):
            self.check_bad(5, with_row(5, row))

    def test_free_places(self):
        for row in ("free", "free ", "free  9", "free 9 ", "free 9 9", "free -1", "free 09", "free 1000001", "free +9",
                    "free -", "free x", "free " + "9" * 31, "free -0"):
            self.check_bad(3, with_row(3, row))
        for version in ("0", "1", "1000000"):
            self.assertEqual(write_tree(read_tree(with_word(3, 1, version))), with_word(3, 1, version))

    def test_leaves(self):
        for row in ("leaf", "leaf 0", "leaf 0 -", "leaf 0 - - 1", "leaf 0 - - 1 1 2", "leaf 0 - -  1 1",
                    "leaf 0 - - 1 1 ",
                    "leaf  0 - -", "leaf 0  - -", "leaf 0 -  -", "leaf 0 - - 1 1 1 1", "leaf 0 - - 2 1 1 1",
                    "leaf - - -",
                    "leaf 0 - - 1 -", "leaf 0 - - - 1", "leaf 0 - - 01 1", "leaf 0 - - 1 01", "leaf 0 - - -0 1",
                    "leaf 0 - - 1000000000 1", "leaf 0 - - 1 1000000000", "leaf 0 - - -1000000000 1", "leaf 0 - - x 1",
                    "leaf 0 - - 1 1 2 2 3 3 4 4 5 5 6 6 7 7", "leaf 1000001 - -", "leaf -1 - -", "leaf 00 - -",
                    "leaf +1 - -",
                    "leaf 0 - - +1 1", "leaf 0 - - 1 1 x x", "leaf 0 - - " + "1" * 31 + " 1",
                    "leaf 0 - - 1 " + "1" * 30):
            self.check_bad(4, with_row(4, row))

    def test_edges(self):
        for at, first in ((1, 2), (2, 2), (4, 2), (6, 3)):
            for high, right in (("-", "0"), ("5", "-"), ("5", "2"), ("5", "4"), ("5", "6"), ("5", "-1"), ("05", "0"),
                                ("5", "00"), ("1000000000", "0"), ("-1000000000", "0"), ("+5", "0"), ("x", "0"),
                                ("5", "x"), ("", ""), ("--", "--"), ("5", "9" * 30), ("None", "None"), ("-0", "0")):
                words = TEXT.split("\n")[at].split(" ")
                words[first:first + 2] = [high, right]
                self.check_bad(at, with_row(at, " ".join(words)))
            for high, right in (("-", "-"), ("5", "0"), ("-5", "1"), ("999999999", "3"), ("-999999999", "5"),
                                ("0", "0")):
                words = TEXT.split("\n")[at].split(" ")
                words[first:first + 2] = [high, right]
                text = with_row(at, " ".join(words))
                self.assertEqual(write_tree(read_tree(text)), text)

    def test_inner_nodes(self):
        for row in ("inner", "inner 1", "inner 1 2", "inner 1 2 -", "inner 1 2 - -", "inner 1 2 - - 0 10",
                    "inner 0 2 - - 0",
                    "inner 61 2 - - 0", "inner -1 2 - - 0", "inner 01 2 - - 0", "inner 1 -1 - - 0",
                    "inner 1 1000001 - - 0",
                    "inner 1 02 - - 0", "inner 1 2 - - -1", "inner 1 2 - - 00", "inner 1 2 - - -",
                    "inner 1 2 - - 0 10 0",
                    "inner 1 2 - - 0 10 1 10 3", "inner 1 2 - - 0 10 1 9 3", "inner 1 2 - - 0 1000000000 1",
                    "inner 1 2 - - 0 x 1",
                    "inner 1 2 - - 0 10 x", "inner 1 2 - - 0 10 1 20", "inner 1 2 - - " + "9" * 31, "inner 1 2 - - 0 ",
                    "inner 1 2 - -  0", "inner  1 2 - - 0", "inner 1 2 - - 0 1 1 2 2 3 3 4 4 5 5 6 6 7 7",
                    "inner - 2 - - 0",
                    "inner 1 - - - 0", "inner x 2 - - 0", "inner 1 2 - - 0 -0 1", "inner 1 2 - - 0 5 +1"):
            self.check_bad(6, with_row(6, row))
        for row in ("inner 1 2 - - 0", "inner 60 1000000 - - 77", "inner 1 2 - - " + "9" * 30, "inner 1 2 - - 0 -5 9",
                    "inner 2 0 - - 9 1 1 2 2 3 3 4 4 5 5 6 6"):
            self.assertEqual(write_tree(read_tree(with_row(6, row))), with_row(6, row))

    def test_blanks_and_line_feeds_twice_ahead_and_behind(self):
        for at in range(7):
            row = TEXT.split("\n")[at]
            self.check_bad(at, with_row(at, row + " "))
            self.check_bad(at, with_row(at, row.replace(" ", "  ", 1)))
            self.check_bad(at, with_row(at, "  ".join(row.rsplit(" ", 1))))
            # A blank ahead makes a row bad; its first word it is still.
            self.check_bad(at, with_row(at, " " + row))
        self.check_bad(7, TEXT + "\n")
        self.check_bad(7, TEXT + "\n\n")
        self.check_bad(0, "\n" + TEXT)
        self.check_bad(0, TEXT.replace("\n", "\n\n"))
        self.check_bad(2, "tree 2 0 0\nleaf 0 - -\n\nfree 0")
        self.check_bad(2, "tree 2 0 0\nleaf 0 - -\n free 0")

    def test_the_first_bad_row_also_where_a_later_one_is_bad(self):
        for first in range(7):
            for later in range(first + 1, 7):
                rows = TEXT.split("\n")
                rows[later] += " x"
                rows[first] += " x"
                self.check_bad(first, "\n".join(rows))

    def test_a_bad_row_of_a_node_may_be_told_of_ahead(self):
        self.check_bad(1, "tree 2 0 0\nleaf")
        self.check_bad(1, "tree 2 0 0\ninner 1")
        self.check_bad(2, "tree 2 0 0\nleaf 0 5 1\nleaf x")
        self.check_bad(0, "tree 2 0 0\nleafy 0 - -")
        self.check_bad(0, "tree 2 0 0\nfree x")
        self.check_bad(1, "tree 2 0 0\nleaf 0 5 1\nfree x")

    def test_other_signs(self):
        for sign in "!#&*.,;:_~\"'\\/|":
            self.check_bad(4, with_row(4, f"leaf 0 - - 1 {sign}"))


if __name__ == "__main__":
    unittest.main()
