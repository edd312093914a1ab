"""Kinds of things: points 2, 10 and 11, and the interface of nolocktree/words.py."""

import copy
import unittest

from nolocktree.words import (
    in_stretch, is_count, is_doer, is_good, is_key, is_level, is_most, is_place, is_rising, is_row, is_whole)
from tests.things import GREATEST, LEAST, deep, no_doers, no_keys, no_numbers, odd_things


class WholeTests(unittest.TestCase):
    def test_numbers_within_and_beside_the_bounds(self):
        for low in range(-3, 4):
            for high in range(-3, 4):
                for thing in range(-5, 6):
                    within = thing in range(low, high + 1)
                    self.assertIs(is_whole(thing, low, high), within)

    def test_great_numbers(self):
        great = 10 ** 29
        self.assertIs(is_whole(great, great, great), True)
        self.assertIs(is_whole(great, -great, great - 1), False)
        self.assertIs(is_whole(-great, -great, 0), True)
        self.assertIs(is_whole(-great - 1, -great, 0), False)
        self.assertIs(is_whole(10 ** 30 - 1, 0, 10 ** 30), True)

    def test_true_and_false_are_none(self):
        self.assertIs(is_whole(True, 0, 5), False)
        self.assertIs(is_whole(False, 0, 5), False)
        self.assertIs(is_whole(True, 1, 1), False)
        self.assertIs(is_whole(False, 0, 0), False)

    def test_other_things_are_none(self):
        for thing in no_numbers():
            self.assertIs(is_whole(thing, -10, 10), False)

    def test_none_is_where_low_is_above_high(self):
        for thing in (-1, 0, 1, 2, 3, 4, 5):
            self.assertIs(is_whole(thing, 4, 1), False)
            self.assertIs(is_whole(thing, 2, 1), False)
        for thing in no_numbers():
            self.assertIs(is_whole(thing, 1, 0), False)


class KeyTests(unittest.TestCase):
    def test_keys_and_goods(self):
        for thing in (0, 1, -1, 17, LEAST, LEAST + 1, GREATEST - 1, GREATEST):
            self.assertIs(is_key(thing), True)
            self.assertIs(is_good(thing), True)

    def test_the_bounds_are_nine_nines(self):
        self.assertIs(is_key(999999999), True)
        self.assertIs(is_key(1000000000), False)
        self.assertIs(is_key(-999999999), True)
        self.assertIs(is_key(-1000000000), False)
        self.assertIs(is_good(999999999), True)
        self.assertIs(is_good(1000000000), False)
        self.assertIs(is_good(-999999999), True)
        self.assertIs(is_good(-1000000000), False)

    def test_other_things_are_neither(self):
        for thing in no_keys():
            self.assertIs(is_key(thing), False)
            self.assertIs(is_good(thing), False)


class RisingTests(unittest.TestCase):
    def check_both(self, keys, answer):
        self.assertIs(is_rising(list(keys)), answer)
        self.assertIs(is_rising(tuple(keys)), answer)

    def test_none_and_one(self):
        self.check_both([], True)
        for key in (0, LEAST, GREATEST):
            self.check_both([key], True)

    def test_many(self):
        self.check_both(range(7), True)
        self.check_both(range(-200, 200), True)
        self.check_both([LEAST, -5, 0, 3, GREATEST], True)
        self.check_both([GREATEST - 1, GREATEST], True)

    def test_equal_or_falling_keys_anywhere(self):
        self.check_both([1, 1], False)
        self.check_both([2, 1], False)
        for at in range(1, 7):
            keys = list(range(0, 70, 10))
            keys[at] = keys[at - 1]
            self.check_both(keys, False)
            keys[at] = keys[at - 1] - 1
            self.check_both(keys, False)
        self.check_both(list(range(399)) + [397], False)

    def test_each_is_above_the_one_right_ahead_of_it_not_above_the_first_alone(self):
        self.check_both([1, 5, 3], False)
        self.check_both([1, 3, 2, 4], False)

    def test_rows_with_what_is_no_key(self):
        for thing in no_keys():
            self.check_both([thing], False)
            self.check_both([LEAST, thing], False)
            self.check_both([LEAST, thing, GREATEST], False)
        self.check_both([False, True], False)
        self.check_both([0, True, 2], False)

    def test_what_is_no_row(self):
        for thing in odd_things() + [0, 1, 12, 10 ** 29, {1: 1, 2: 2}, "123"]:
            self.assertIs(is_rising(thing), False)

    def test_rows_within_rows(self):
        self.check_both([deep(7)], False)
        self.check_both([[1, 2]], False)
        self.check_both([1, (2,)], False)

    def test_changes_nothing(self):
        for thing in ([1, 2, 3], [3, 2], [[1], {"a": [2]}], {"a": [1]}):
            before = copy.deepcopy(thing)
            is_rising(thing)
            is_key(thing)
            is_good(thing)
            is_whole(thing, 0, 1)
            self.assertEqual(thing, before)


class OwnHelperTests(unittest.TestCase):
    def test_places(self):
        for thing in (0, 1, 400, 10 ** 29, 10 ** 30):
            self.assertIs(is_place(thing), True)
        for thing in no_numbers() + [-1, -10 ** 29]:
            self.assertIs(is_place(thing), False)

    def test_mosts(self):
        for thing in range(-2, 9):
            self.assertIs(is_most(thing), thing in (2, 3, 4, 5))
        for thing in no_numbers():
            self.assertIs(is_most(thing), False)

    def test_levels(self):
        for thing in range(-2, 64):
            self.assertIs(is_level(thing), thing in range(61))
        for thing in no_numbers():
            self.assertIs(is_level(thing), False)

    def test_numbers_of_doers_and_counts(self):
        for thing in (0, 1, 60, 10 ** 6):
            self.assertIs(is_doer(thing), True)
            self.assertIs(is_count(thing), True)
        for thing in no_doers():
            self.assertIs(is_doer(thing), False)
            self.assertIs(is_count(thing), False)

    def test_rows(self):
        for thing in ([], (), [1, "a"], (None,), deep(8)):
            self.assertIs(is_row(thing), True)
        for thing in odd_things() + [0, 5]:
            self.assertIs(is_row(thing), False)

    def test_stretches(self):
        for low in (None, -2, 0, 2):
            for high in (None, -2, 0, 2):
                for key in range(-4, 5):
                    first = -9 if low is None else low
                    end = 9 if high is None else high
                    self.assertIs(in_stretch(key, low, high), key in range(first, end))


if __name__ == "__main__":
    unittest.main()
