"""Leaves: points 20 to 22, and what of points 4 and 5 they keep."""

import copy
import unittest

from nolocktree.errors import Lacks, NoGood, NoKey, NoPage, TooMany
from nolocktree.pages import Inner, Leaf, Page
from tests.things import GREATEST, LEAST, Checks, inner_of, leaf_of, no_keys, odd_things, refusal, spread


class MakingTests(Checks, unittest.TestCase):
    def test_none_to_six_keys(self):
        for many in range(7):
            keys = spread(many)
            goods = [key * 3 for key in keys]
            self.check_page(Leaf(keys, goods), Leaf, keys, goods)
            self.check_page(Leaf(tuple(keys), tuple(goods)), Leaf, keys, goods)
            self.check_page(Leaf(keys, tuple(goods)), Leaf, keys, goods)

    def test_a_leaf_is_a_page_and_no_inner(self):
        self.assertIsInstance(Leaf([], []), Page)
        self.assertNotIsInstance(Leaf([], []), Inner)

    def test_greatest_and_least_keys_and_goods(self):
        ends = [LEAST, GREATEST]
        self.check_page(Leaf(ends, ends), Leaf, ends, ends)
        self.check_page(Leaf(ends, ends[::-1]), Leaf, ends, ends[::-1])

    def test_goods_may_be_alike(self):
        self.check_page(Leaf([1, 2, 3], [7, 7, 7]), Leaf, [1, 2, 3], [7, 7, 7])

    def test_refuses_keys_that_are_no_row(self):
        for thing in odd_things() + [0, 10 ** 29]:
            self.check_refused(NoPage, "found", thing, Leaf, thing, [])

    def test_refuses_keys_that_are_no_keys(self):
        for thing in no_keys():
            for keys in ([thing], (thing,), [LEAST, thing]):
                self.check_refused(NoPage, "found", keys, Leaf, keys, [1] * len(keys))

    def test_refuses_keys_that_do_not_rise(self):
        for keys in ([1, 1], [2, 1], (1, 3, 2), [1, 2, 3, 4, 5, 5]):
            self.check_refused(NoPage, "found", keys, Leaf, keys, [0] * len(keys))

    def test_refuses_seven_keys_and_more(self):
        for many in (7, 8, 400):
            keys = spread(many)
            self.check_refused(NoPage, "found", keys, Leaf, keys, list(keys))

    def test_refuses_goods_that_are_no_row(self):
        for thing in odd_things() + [0, 10 ** 29]:
            self.check_refused(NoPage, "found", thing, Leaf, [], thing)
            self.check_refused(NoPage, "found", thing, Leaf, [1], thing)

    def test_refuses_goods_that_are_no_goods(self):
        for thing in no_keys():
            for goods in ([thing, 1], (1, thing)):
                self.check_refused(NoPage, "found", goods, Leaf, [1, 2], goods)

    def test_refuses_fewer_and_more_goods(self):
        for many in range(7):
            for others in range(9):
                error = refusal(Leaf, spread(many), [5] * others)
                self.assertEqual(error is None, many == others)

    def test_keys_are_looked_at_ahead_of_goods(self):
        for keys in ("key", [2, 1], spread(7), None):
            for goods in ("good", [None], [1, 2], None):
                self.check_refused(NoPage, "found", keys, Leaf, keys, goods)

    def test_equal_keys_and_goods_that_are_refused_are_told_apart(self):
        goods = [None]
        self.check_refused(NoPage, "found", goods, Leaf, [1], goods)
        keys = [None]
        self.check_refused(NoPage, "found", keys, Leaf, keys, goods)

    def test_what_is_handed_in_is_not_changed_nor_kept(self):
        keys, goods = [1, 2], [3, 4]
        leaf = Leaf(keys, goods)
        self.assertEqual((keys, goods), ([1, 2], [3, 4]))
        keys.append(9)
        goods[0] = 77
        self.check_page(leaf, Leaf, [1, 2], [3, 4])

    def test_refused_things_are_not_changed(self):
        for keys, goods in (([2, 1], [3, 4]), ([1, 2], [3, None]), ([1], [[2]])):
            before = copy.deepcopy((keys, goods))
            self.assertIs(type(refusal(Leaf, keys, goods)), NoPage)
            self.assertEqual((keys, goods), before)

    def test_told_lists_are_the_askers_own(self):
        leaf = Leaf([1, 2], [3, 4])
        for tell in (leaf.all_keys, leaf.goods):
            first = tell()
            self.assertIsNot(first, tell())
            first.clear()
        self.check_page(leaf, Leaf, [1, 2], [3, 4])


class SameTests(unittest.TestCase):
    def test_same_keys_and_goods(self):
        for many in range(7):
            self.assertIs(leaf_of(spread(many)).same(leaf_of(tuple(spread(many)))), True)
        leaf = Leaf([1], [2])
        self.assertIs(leaf.same(leaf), True)

    def test_other_keys_or_goods(self):
        leaf = Leaf([1, 2], [3, 4])
        for other in (Leaf([1, 3], [3, 4]), Leaf([1, 2], [3, 5]), Leaf([1, 2], [4, 3]), Leaf([1], [3]),
                      Leaf([], []), Leaf([1, 2, 3], [3, 4, 5])):
            self.assertIs(leaf.same(other), False)
            self.assertIs(other.same(leaf), False)

    def test_any_other_thing(self):
        for leaf in (Leaf([], []), Leaf([1], [2])):
            for thing in odd_things() + [0, [], [[1], [2]], ([1], [2]), Inner([1], [2, 3]), Inner([], [1])]:
                if not isinstance(thing, Leaf):
                    self.assertIs(leaf.same(thing), False)


class GoodTests(Checks, unittest.TestCase):
    def test_of_keys_there_and_not_there(self):
        for many in range(7):
            keys = spread(many)
            leaf = leaf_of(keys)
            for key in range(0, 80):
                self.assertEqual(leaf.good(key), key + 10000 if key in keys else None)

    def test_a_good_of_nought_is_told(self):
        good = Leaf([0], [0]).good(0)
        self.assertIs(type(good), int)
        self.assertEqual(good, 0)

    def test_refuses_what_is_no_key(self):
        for thing in no_keys():
            self.check_refused(NoKey, "found", thing, Leaf([1], [2]).good, thing)


class WithGoodTests(Checks, unittest.TestCase):
    def test_a_new_key_at_each_place(self):
        for many in range(6):
            for key in range(5, 10 * many + 6, 10):
                before = dict(zip(spread(many), leaf_of(spread(many)).goods()))
                before[key] = -4
                leaf = leaf_of(spread(many))
                told = leaf.with_good(key, -4)
                self.check_page(told, Leaf, sorted(before), [before[one] for one in sorted(before)])
                self.assertIs(leaf.same(leaf_of(spread(many))), True)

    def test_another_good_for_a_key_that_is_there(self):
        for many in range(1, 7):
            for at, key in enumerate(spread(many)):
                leaf = leaf_of(spread(many))
                goods = leaf.goods()
                goods[at] = -4
                self.check_page(leaf.with_good(key, -4), Leaf, spread(many), goods)
                self.assertIs(leaf.same(leaf_of(spread(many))), True)

    def test_the_same_good_again_tells_another_leaf(self):
        leaf = Leaf([1], [2])
        told = leaf.with_good(1, 2)
        self.assertIsNot(told, leaf)
        self.assertIs(told.same(leaf), True)

    def test_refuses_a_seventh_key(self):
        leaf = leaf_of(spread(6))
        for key in (LEAST, 5, 35, 65, GREATEST):
            self.check_counted(TooMany, 7, leaf.with_good, key, 1)
        self.check_page(leaf, Leaf, spread(6), leaf_of(spread(6)).goods())

    def test_refuses_what_is_no_key_and_then_what_is_no_good(self):
        for leaf in (Leaf([], []), leaf_of(spread(6))):
            for thing in no_keys():
                self.check_refused(NoKey, "found", thing, leaf.with_good, thing, 1)
                self.check_refused(NoKey, "found", thing, leaf.with_good, thing, None)
                self.check_refused(NoGood, "found", thing, leaf.with_good, 1, thing)
                self.check_refused(NoGood, "found", thing, leaf.with_good, 10, thing)

    def test_greatest_and_least_ones(self):
        leaf = Leaf([], []).with_good(GREATEST, LEAST).with_good(LEAST, GREATEST)
        self.check_page(leaf, Leaf, [LEAST, GREATEST], [GREATEST, LEAST])


class WithoutTests(Checks, unittest.TestCase):
    def test_each_key_that_is_there(self):
        for many in range(1, 7):
            for key in spread(many):
                leaf = leaf_of(spread(many))
                rest = [one for one in spread(many) if one != key]
                self.check_page(leaf.without(key), Leaf, rest, leaf_of(rest).goods())
                self.assertIs(leaf.same(leaf_of(spread(many))), True)

    def test_refuses_a_key_that_is_not_there(self):
        for many in range(7):
            for key in (LEAST, 5, 10 ** 8, GREATEST):
                self.check_refused(Lacks, "key", key, leaf_of(spread(many)).without, key)

    def test_refuses_what_is_no_key(self):
        for thing in no_keys():
            self.check_refused(NoKey, "found", thing, Leaf([1], [2]).without, thing)


class PartTests(Checks, unittest.TestCase):
    def test_each_stretch_beside_a_plain_reckoning(self):
        ends = [None, LEAST, 9, 10, 11, 20, 25, 40, 60, 61, GREATEST]
        for many in range(7):
            leaf = leaf_of(spread(many))
            for low in ends:
                for high in ends:
                    first = LEAST if low is None else low
                    end = GREATEST + 1 if high is None else high
                    pairs = [(key, key + 10000) for key in spread(many) if first <= key < end]
                    self.assertEqual(leaf.part(low, high), pairs)

    def test_open_at_either_end(self):
        leaf = Leaf([1, 2, 3], [7, 8, 9])
        self.assertEqual(leaf.part(None, None), [(1, 7), (2, 8), (3, 9)])
        self.assertEqual(leaf.part(2, None), [(2, 8), (3, 9)])
        self.assertEqual(leaf.part(None, 2), [(1, 7)])
        self.assertEqual(leaf.part(0, None), [(1, 7), (2, 8), (3, 9)])
        self.assertEqual(leaf.part(None, 0), [])

    def test_empty_and_turned_ones(self):
        leaf = Leaf([1, 2, 3], [7, 8, 9])
        self.assertEqual(leaf.part(2, 2), [])
        self.assertEqual(leaf.part(3, 1), [])
        self.assertEqual(leaf.part(GREATEST, LEAST), [])

    def test_the_greatest_key_is_told_where_high_is_none(self):
        leaf = Leaf([LEAST, GREATEST], [1, 2])
        self.assertEqual(leaf.part(LEAST, None), [(LEAST, 1), (GREATEST, 2)])
        self.assertEqual(leaf.part(LEAST, GREATEST), [(LEAST, 1)])

    def test_nought_is_an_end_like_any_other(self):
        leaf = Leaf([-1, 0, 1], [7, 8, 9])
        self.assertEqual(leaf.part(0, None), [(0, 8), (1, 9)])
        self.assertEqual(leaf.part(None, 0), [(-1, 7)])

    def test_a_list_of_tuples_new_each_time(self):
        leaf = Leaf([1, 2], [3, 4])
        told = leaf.part(None, None)
        self.assertIs(type(told), list)
        self.assertEqual([type(pair) for pair in told], [tuple, tuple])
        told.clear()
        self.assertEqual(leaf.part(None, None), [(1, 3), (2, 4)])

    def test_refuses_what_is_neither_key_nor_none_low_first(self):
        leaf = Leaf([1], [2])
        for thing in no_keys():
            if thing is None:
                continue
            self.check_refused(NoKey, "found", thing, leaf.part, thing, None)
            self.check_refused(NoKey, "found", thing, leaf.part, thing, 1)
            self.check_refused(NoKey, "found", thing, leaf.part, thing, "high")
            self.check_refused(NoKey, "found", thing, leaf.part, None, thing)
            self.check_refused(NoKey, "found", thing, leaf.part, 5, thing)


class StayingTests(Checks, unittest.TestCase):
    def test_no_deed_changes_a_leaf(self):
        leaf = leaf_of(spread(4))
        other = inner_of([5], 0)
        deeds = [(leaf.good, 10), (leaf.with_good, 10, 1), (leaf.with_good, 15, 1), (leaf.without, 20),
                 (leaf.part, 10, 30), (leaf.parted,), (leaf.fits, leaf_of([50]), 5), (leaf.joined, 50, leaf_of([50])),
                 (leaf.same, leaf), (leaf.with_good, "a", 1), (leaf.with_good, 1, "a"), (leaf.without, 3),
                 (leaf.part, "a", 1), (leaf.fits, other, 3), (leaf.joined, 15, leaf_of([50]))]
        for deed, *given in deeds:
            refusal(deed, *given)
            self.check_page(leaf, Leaf, [10, 20, 30, 40], [10010, 10020, 10030, 10040])


if __name__ == "__main__":
    unittest.main()
