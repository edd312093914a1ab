"""Pages parted and joined: points 24 to 26."""

import unittest

from nolocktree.errors import NoJoin, NoKey, NoMost, NoPage, NoPlace, TooFew, TooMany
from nolocktree.pages import Inner, Leaf, Page
from tests.things import GREATEST, LEAST, Checks, inner_of, leaf_of, no_keys, no_numbers, no_pages, refusal, spread


class InterfaceTests(unittest.TestCase):
    def test_page_has_what_both_kinds_have(self):
        for name in ("all_keys", "goods", "many", "same", "parted", "fits", "joined"):
            self.assertTrue(callable(getattr(Page, name)))


class PartedTests(Checks, unittest.TestCase):
    def test_leaves(self):
        lefts = {2: 1, 3: 2, 4: 2, 5: 3, 6: 3}
        for many, first in lefts.items():
            keys = spread(many)
            told = leaf_of(keys).parted()
            self.assertIs(type(told), tuple)
            left, key, right = told
            self.check_page(left, Leaf, keys[:first], leaf_of(keys[:first]).goods())
            self.check_page(right, Leaf, keys[first:], leaf_of(keys[first:]).goods())
            self.assertEqual(key, keys[first])

    def test_inner_pages(self):
        between = {3: 1, 4: 2, 5: 2, 6: 3}
        for many, at in between.items():
            keys = spread(many)
            places = list(range(40, 40 - many - 1, -1))
            told = Inner(keys, places).parted()
            self.assertIs(type(told), tuple)
            left, key, right = told
            self.check_page(left, Inner, keys[:at], places[:at + 1])
            self.check_page(right, Inner, keys[at + 1:], places[at + 1:])
            self.assertEqual(key, keys[at])

    def test_one_of_each_written_out(self):
        left, key, right = Leaf([1, 2, 3], [7, 8, 9]).parted()
        self.check_page(left, Leaf, [1, 2], [7, 8])
        self.check_page(right, Leaf, [3], [9])
        self.assertEqual(key, 3)
        left, key, right = Inner([1, 2, 3, 4], [5, 6, 7, 8, 9]).parted()
        self.check_page(left, Inner, [1, 2], [5, 6, 7])
        self.check_page(right, Inner, [4], [8, 9])
        self.assertEqual(key, 3)

    def test_too_few_keys(self):
        for many in (0, 1):
            self.check_counted(TooFew, many, leaf_of(spread(many)).parted)
        for many in (0, 1, 2):
            self.check_counted(TooFew, many, inner_of(spread(many), 0).parted)


class FitsTests(Checks, unittest.TestCase):
    def test_leaves(self):
        for left in range(7):
            for right in range(7):
                for most in (2, 3, 4, 5):
                    told = leaf_of(spread(left)).fits(leaf_of(spread(right)), most)
                    self.assertIs(told, left + right <= most)

    def test_inner_pages(self):
        for left in range(7):
            for right in range(7):
                for most in (2, 3, 4, 5):
                    told = inner_of(spread(left), 0).fits(inner_of(spread(right), 50), most)
                    self.assertIs(told, left + right + 1 <= most)

    def test_refuses_what_is_no_page_of_the_kind_first(self):
        for page, other in ((leaf_of([1]), inner_of([1], 0)), (inner_of([1], 0), leaf_of([1]))):
            for thing in no_pages() + [other]:
                for most in (3, 1, 6, None):
                    self.check_refused(NoPage, "found", thing, page.fits, thing, most)

    def test_then_what_is_no_most(self):
        for page in (leaf_of([1]), inner_of([1], 0)):
            for thing in no_numbers() + [-3, 0, 1, 6, 7, 10 ** 29]:
                self.check_refused(NoMost, "found", thing, page.fits, page, thing)


class JoinedTests(Checks, unittest.TestCase):
    def check_join(self, left, key, right, keys):
        """That the two make a page of these keys, joined by the key, or are refused for having too many."""
        if len(keys) > 6:
            self.check_counted(TooMany, len(keys), left.joined, key, right)
        else:
            self.check_page(left.joined(key, right), type(left), keys, left.goods() + right.goods())

    def test_leaves_of_each_size(self):
        for left in range(7):
            for right in range(7):
                keys = spread(left + right)
                for key in (10 * left + 1, 10 * left + 10):
                    self.check_join(leaf_of(keys[:left]), key, leaf_of(keys[left:]), keys)

    def test_inner_pages_of_each_size(self):
        for left in range(7):
            for right in range(7):
                keys = spread(left + 1 + right)
                self.check_join(inner_of(keys[:left], 50), keys[left], inner_of(keys[left + 1:], 20), keys)

    def test_a_leaf_lacks_the_key_between_where_neither_has_it(self):
        self.check_page(Leaf([1], [5]).joined(3, Leaf([7], [6])), Leaf, [1, 7], [5, 6])
        self.check_page(Leaf([], []).joined(3, Leaf([], [])), Leaf, [], [])

    def test_an_inner_has_the_key_between(self):
        self.check_page(Inner([1], [5, 2]).joined(3, Inner([7], [6, 0])), Inner, [1, 3, 7], [5, 2, 6, 0])
        self.check_page(Inner([], [9]).joined(3, Inner([], [8])), Inner, [3], [9, 8])

    def test_keys_at_the_ends(self):
        self.check_page(Leaf([LEAST], [1]).joined(GREATEST, Leaf([GREATEST], [2])), Leaf, [LEAST, GREATEST], [1, 2])
        self.check_page(Inner([], [1]).joined(LEAST, Inner([], [2])), Inner, [LEAST], [1, 2])

    def test_refuses_what_is_no_page_of_the_kind_first(self):
        for page, other in ((leaf_of([1]), inner_of([1], 0)), (inner_of([1], 0), leaf_of([1]))):
            for thing in no_pages() + [other]:
                for key in (5, 0, "key", None):
                    self.check_refused(NoPage, "found", thing, page.joined, key, thing)

    def test_then_what_is_no_key(self):
        full = spread(6)
        for left, right in ((leaf_of([1]), leaf_of([2])), (leaf_of(full), leaf_of(full)),
                            (inner_of([1], 0), inner_of([5], 0)), (inner_of(full, 0), inner_of(full, 0))):
            for thing in no_keys():
                self.check_refused(NoKey, "found", thing, left.joined, thing, right)

    def test_then_a_key_that_is_not_between_leaves(self):
        left, right = leaf_of([10, 20]), leaf_of([30, 40])
        for key in range(0, 60):
            error = refusal(left.joined, key, right)
            self.assertEqual(error is None, 20 < key <= 30)
            if error is not None:
                self.check_refused(NoJoin, "key", key, left.joined, key, right)

    def test_then_a_key_that_is_not_between_inner_pages(self):
        left, right = inner_of([10, 20], 0), inner_of([30, 40], 10)
        for key in range(0, 60):
            error = refusal(left.joined, key, right)
            self.assertEqual(error is None, 20 < key < 30)
            if error is not None:
                self.check_refused(NoJoin, "key", key, left.joined, key, right)

    def test_the_refused_key_is_the_one_handed_in_not_one_of_a_page(self):
        for digits in ("100000", "300000"):
            key = int(digits)
            self.check_refused(NoJoin, "key", key, Inner([100000], [1, 2]).joined, key, Inner([300000], [3, 4]))

    def test_one_side_without_keys(self):
        for key in range(0, 40):
            self.assertEqual(refusal(leaf_of([]).joined, key, leaf_of([10, 20])) is None, key <= 10)
            self.assertEqual(refusal(leaf_of([10, 20]).joined, key, leaf_of([])) is None, key > 20)
            self.assertEqual(refusal(inner_of([], 0).joined, key, inner_of([10, 20], 5)) is None, key < 10)
            self.assertEqual(refusal(inner_of([10, 20], 0).joined, key, inner_of([], 5)) is None, key > 20)

    def test_pages_that_overlap_have_no_key_between(self):
        for key in (5, 10, 15, 20, 25, 30, 35):
            self.check_refused(NoJoin, "key", key, leaf_of([10, 30]).joined, key, leaf_of([20]))
            self.check_refused(NoJoin, "key", key, leaf_of([20]).joined, key, leaf_of([10, 30]))
            self.check_refused(NoJoin, "key", key, inner_of([10, 30], 0).joined, key, inner_of([20], 9))
            self.check_refused(NoJoin, "key", key, inner_of([20], 0).joined, key, inner_of([10, 30], 9))

    def test_no_join_comes_ahead_of_too_many_and_of_places(self):
        keys = spread(12)
        self.check_refused(NoJoin, "key", keys[3], leaf_of(keys[:6]).joined, keys[3], leaf_of(keys[6:]))
        self.check_refused(NoJoin, "key", keys[3], inner_of(keys[:6], 0).joined, keys[3], inner_of(keys[6:], 0))
        self.check_refused(NoJoin, "key", 10, inner_of([10], 0).joined, 10, inner_of([30], 0))

    def test_too_many_comes_ahead_of_places(self):
        keys = spread(7)
        self.check_counted(TooMany, 7, inner_of(keys[:3], 0).joined, keys[3], inner_of(keys[4:], 0))

    def test_refuses_the_first_place_of_the_right_one_that_both_have(self):
        left = Inner([10, 20], [4, 5, 6])
        great = 10 ** 25
        for places, place in (([6, 4], 6), ([4, 6], 4), ([9, 5], 5), ([5, 9], 5)):
            self.check_refused(NoPlace, "found", place, left.joined, 30, Inner([40], places))
        self.check_refused(NoPlace, "found", great, Inner([], [great]).joined, 1, Inner([], [great]))

    def test_the_other_page_is_not_changed(self):
        left, right = leaf_of([10]), leaf_of([30])
        left.joined(20, right)
        refusal(left.joined, 40, right)
        self.check_page(left, Leaf, [10], [10010])
        self.check_page(right, Leaf, [30], [10030])


class TogetherTests(Checks, unittest.TestCase):
    def test_parted_and_joined_is_the_page_again(self):
        pages = [leaf_of(spread(many)) for many in range(2, 7)]
        pages += [inner_of(spread(many), 3) for many in range(3, 7)]
        for page in pages:
            left, key, right = page.parted()
            told = left.joined(key, right)
            self.check_page(told, type(page), page.all_keys(), page.goods())
            self.assertIs(told.same(page), True)
            self.assertIs(page.same(told), True)

    def test_a_part_of_joined_leaves_is_the_parts_of_both(self):
        ends = [None] + list(range(5, 75, 5))
        for many in range(7):
            for first in range(many + 1):
                keys = spread(many)
                left, right = leaf_of(keys[:first]), leaf_of(keys[first:])
                told = left.joined(10 * first + 5, right)
                for low in ends:
                    for high in ends:
                        self.assertEqual(told.part(low, high), left.part(low, high) + right.part(low, high))


if __name__ == "__main__":
    unittest.main()
