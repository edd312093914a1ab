"""Inner pages: points 20, 21 and 23, and what of points 4 and 5 they keep."""

import copy
import unittest

from nolocktree.errors import Has, Lacks, NoKey, NoPage, NoPlace, TooMany
from nolocktree.pages import Inner, Leaf, Page
from tests.things import GREATEST, LEAST, Checks, inner_of, leaf_of, no_keys, no_numbers, odd_things, refusal, spread


class MakingTests(Checks, unittest.TestCase):
    def test_none_to_six_keys(self):
        for many in range(7):
            keys = spread(many)
            places = list(range(30, 30 - many - 1, -1))
            self.check_page(Inner(keys, places), Inner, keys, places)
            self.check_page(Inner(tuple(keys), tuple(places)), Inner, keys, places)
            self.check_page(Inner(tuple(keys), places), Inner, keys, places)

    def test_an_inner_is_a_page_and_no_leaf(self):
        self.assertIsInstance(Inner([], [0]), Page)
        self.assertNotIsInstance(Inner([], [0]), Leaf)

    def test_places_from_nought_on_without_a_greatest(self):
        places = [0, GREATEST + 1, 10 ** 29]
        self.check_page(Inner([1, 2], places), Inner, [1, 2], places)

    def test_refuses_keys_that_are_no_row(self):
        for thing in odd_things() + [0, 10 ** 29]:
            self.check_refused(NoPage, "found", thing, Inner, thing, [0])

    def test_refuses_keys_that_are_no_keys(self):
        for thing in no_keys():
            for keys in ([thing], (thing,), [LEAST, thing]):
                self.check_refused(NoPage, "found", keys, Inner, keys, list(range(len(keys) + 1)))

    def test_refuses_keys_that_do_not_rise(self):
        for keys in ([1, 1], [2, 1], (1, 3, 2), [1, 2, 3, 4, 5, 5]):
            self.check_refused(NoPage, "found", keys, Inner, keys, list(range(len(keys) + 1)))

    def test_refuses_seven_keys_and_more(self):
        for many in (7, 8, 399):
            keys = spread(many)
            self.check_refused(NoPage, "found", keys, Inner, keys, list(range(many + 1)))

    def test_refuses_places_that_are_no_row(self):
        for thing in odd_things() + [0, 10 ** 29]:
            self.check_refused(NoPage, "found", thing, Inner, [], thing)
            self.check_refused(NoPage, "found", thing, Inner, [1], thing)

    def test_refuses_places_that_are_no_places(self):
        for thing in no_numbers() + [-1, -10 ** 29]:
            for places in ([thing, 5], (5, thing)):
                self.check_refused(NoPage, "found", places, Inner, [1], places)

    def test_refuses_equal_places_wherever_they_stand(self):
        for many in range(1, 7):
            for at in range(many + 1):
                for behind in range(at + 1, many + 1):
                    places = list(range(many + 1))
                    places[behind] = places[at]
                    self.check_refused(NoPage, "found", places, Inner, spread(many), places)

    def test_refuses_fewer_and_more_places(self):
        for many in range(7):
            for others in range(9):
                error = refusal(Inner, spread(many), list(range(others)))
                self.assertEqual(error is None, many + 1 == others)

    def test_refuses_more_places_of_which_just_enough_are_unlike(self):
        for many in range(7):
            places = list(range(many + 1)) + [0]
            self.check_refused(NoPage, "found", places, Inner, spread(many), places)

    def test_keys_are_looked_at_ahead_of_places(self):
        for keys in ("key", [2, 1], spread(7), None):
            for places in ("place", [None], [1, 1], None):
                self.check_refused(NoPage, "found", keys, Inner, keys, places)

    def test_what_is_handed_in_is_not_changed_nor_kept(self):
        keys, places = [1], [3, 4]
        inner = Inner(keys, places)
        self.assertEqual((keys, places), ([1], [3, 4]))
        keys.append(9)
        places[0] = 77
        self.check_page(inner, Inner, [1], [3, 4])

    def test_refused_things_are_not_changed(self):
        for keys, places in (([2, 1], [3, 4, 5]), ([1], [3, 3]), ([1], [[2], 3])):
            before = copy.deepcopy((keys, places))
            self.assertIs(type(refusal(Inner, keys, places)), NoPage)
            self.assertEqual((keys, places), before)

    def test_told_lists_are_the_askers_own(self):
        inner = Inner([1], [3, 4])
        for tell in (inner.all_keys, inner.goods):
            first = tell()
            self.assertIsNot(first, tell())
            first.clear()
        self.check_page(inner, Inner, [1], [3, 4])


class SameTests(unittest.TestCase):
    def test_same_keys_and_places(self):
        for many in range(7):
            self.assertIs(inner_of(spread(many), 3).same(inner_of(tuple(spread(many)), 3)), True)

    def test_other_keys_or_places(self):
        inner = Inner([1, 2], [3, 4, 5])
        for other in (Inner([1, 3], [3, 4, 5]), Inner([1, 2], [3, 4, 6]), Inner([1, 2], [3, 5, 4]),
                      Inner([1], [3, 4]), Inner([], [3])):
            self.assertIs(inner.same(other), False)
            self.assertIs(other.same(inner), False)

    def test_any_other_thing(self):
        for inner in (Inner([], [7]), Inner([1], [2, 3])):
            for thing in odd_things() + [0, [], [[1], [2, 3]], ([1], [2, 3]), Leaf([1], [2]), Leaf([], [])]:
                self.assertIs(inner.same(thing), False)


class ChildTests(Checks, unittest.TestCase):
    def test_child_beyond_and_separator_of_each_key(self):
        for many in range(7):
            keys = spread(many)
            places = list(range(20, 20 - many - 1, -1))
            inner = Inner(keys, places)
            for key in [LEAST] + list(range(0, 80)) + [GREATEST]:
                at = 0
                while at < many and keys[at] <= key:
                    at += 1
                self.assertEqual(inner.child(key), places[at])
                self.assertEqual(inner.beyond(key), (places + [None])[at + 1])
                self.assertEqual(inner.separator(key), (keys + [None])[at])

    def test_some_of_them_written_out(self):
        inner = Inner([10, 20], [5, 6, 7])
        told = [(key, inner.child(key), inner.beyond(key), inner.separator(key)) for key in (9, 10, 11, 19, 20, 21)]
        self.assertEqual(told, [(9, 5, 6, 10), (10, 6, 7, 20), (11, 6, 7, 20), (19, 6, 7, 20),
                                (20, 7, None, None), (21, 7, None, None)])

    def test_an_inner_without_keys(self):
        inner = Inner([], [0])
        self.assertEqual((inner.child(3), inner.beyond(3), inner.separator(3)), (0, None, None))

    def test_refuse_what_is_no_key(self):
        inner = Inner([1], [2, 3])
        for thing in no_keys():
            for ask in (inner.child, inner.beyond, inner.separator):
                self.check_refused(NoKey, "found", thing, ask, thing)


class WithChildTests(Checks, unittest.TestCase):
    def test_a_new_key_at_each_place(self):
        for many in range(6):
            keys = spread(many)
            for at in range(many + 1):
                key = 10 * at + 5
                inner = inner_of(keys, 100)
                told = inner.with_child(key, 7)
                self.assertEqual(told.child(key), 7)
                places = inner.goods()
                places.insert(at + 1, 7)
                self.check_page(told, Inner, sorted(keys + [key]), places)
                self.assertIs(inner.same(inner_of(keys, 100)), True)

    def test_into_an_inner_without_keys(self):
        self.check_page(Inner([], [4]).with_child(1, 0), Inner, [1], [4, 0])

    def test_great_places_and_keys_at_the_ends(self):
        told = Inner([0], [1, 2]).with_child(GREATEST, 10 ** 29).with_child(LEAST, 10 ** 30 - 1)
        self.check_page(told, Inner, [LEAST, 0, GREATEST], [1, 10 ** 30 - 1, 2, 10 ** 29])

    def test_refuses_what_is_no_key_first(self):
        for inner in (Inner([10], [2, 3]), inner_of(spread(6), 0)):
            for thing in no_keys():
                for place in (2, 99, -1, None):
                    self.check_refused(NoKey, "found", thing, inner.with_child, thing, place)

    def test_then_what_is_no_place(self):
        for inner in (Inner([10], [2, 3]), inner_of(spread(6), 0)):
            for thing in no_numbers() + [-1, -10 ** 29]:
                for key in (5, 10):
                    self.check_refused(NoPlace, "found", thing, inner.with_child, key, thing)

    def test_then_a_place_that_it_has(self):
        for many in range(7):
            for first in (0, 10 ** 20):
                inner = inner_of(spread(many), first)
                for at in range(many + 1):
                    for key in (5, 10, 60):
                        place = first + at
                        self.check_refused(NoPlace, "found", place, inner.with_child, key, place)

    def test_then_a_key_that_is_there(self):
        for many in range(1, 7):
            inner = inner_of(spread(many), 0)
            for key in spread(many):
                self.check_refused(Has, "key", key, inner.with_child, key, 99)

    def test_the_refused_key_is_the_one_handed_in_not_the_pages_own(self):
        key = int("100000")
        self.check_refused(Has, "key", key, Inner([int("100000")], [1, 2]).with_child, key, 3)

    def test_then_a_seventh_key(self):
        inner = inner_of(spread(6), 0)
        for key in (LEAST, 5, 35, 65, GREATEST):
            self.check_counted(TooMany, 7, inner.with_child, key, 99)


class WithoutChildTests(Checks, unittest.TestCase):
    def test_each_key_that_is_there(self):
        for many in range(1, 7):
            for at, key in enumerate(spread(many)):
                inner = inner_of(spread(many), 100)
                keys, places = inner.all_keys(), inner.goods()
                del keys[at], places[at + 1]
                self.check_page(inner.without_child(key), Inner, keys, places)
                self.assertIs(inner.same(inner_of(spread(many), 100)), True)

    def test_undoes_with_child(self):
        inner = inner_of(spread(3), 0)
        self.assertIs(inner.with_child(25, 99).without_child(25).same(inner), True)

    def test_refuses_a_key_that_is_not_there(self):
        for many in range(7):
            for key in (LEAST, 5, 10 ** 8, GREATEST):
                self.check_refused(Lacks, "key", key, inner_of(spread(many), 0).without_child, key)

    def test_refuses_what_is_no_key(self):
        for thing in no_keys():
            self.check_refused(NoKey, "found", thing, Inner([1], [2, 3]).without_child, thing)


class StayingTests(Checks, unittest.TestCase):
    def test_no_deed_changes_an_inner(self):
        inner = inner_of(spread(3), 0)
        right = inner_of([50], 10)
        deeds = [(inner.child, 10), (inner.beyond, 10), (inner.separator, 10), (inner.with_child, 15, 9),
                 (inner.without_child, 20), (inner.parted,), (inner.fits, right, 5), (inner.joined, 40, right),
                 (inner.same, inner), (inner.with_child, "a", 1), (inner.with_child, 1, "a"), (inner.with_child, 10, 9),
                 (inner.without_child, 3), (inner.child, "a"), (inner.fits, leaf_of([1]), 3),
                 (inner.joined, 15, right), (inner.joined, 40, inner_of([50], 3))]
        for deed, *given in deeds:
            refusal(deed, *given)
            self.check_page(inner, Inner, [10, 20, 30], [0, 1, 2, 3])
            self.check_page(right, Inner, [50], [10, 11])


if __name__ == "__main__":
    unittest.main()
