"""The plain store: point 90, and the interface of nolocktree/plain.py."""

import random
import unittest

from nolocktree.errors import NoCall, NoKey
from nolocktree.finds import Find
from nolocktree.joins import Join, Sink
from nolocktree.plain import Plain
from nolocktree.puts import Put
from nolocktree.stretches import Parts, Whole
from nolocktree.takes import Take
from tests.things import GREATEST, LEAST, Checks, deep, no_keys, no_numbers, odd_things

PAIRS = [(1, 10), (3, 30), (5, 0), (9, -90)]


def no_pairs():
    """Things that are no pairs, new ones each time."""
    told = odd_things() + [0, 7, 10 ** 29, [1], (1, 2), [[1, 2]], [(1,)], [()], [(1, 2, 3)], [None], deep(8), [[]],
                           [(1, 2), (1, 2)], [(1, 2), (1, 3)], [(2, 2), (1, 1)], [(1, 2), [3, 4]], [(1, 2), 3],
                           ((1, 2), (0, 1)), [{}], [{1: 2}], ["12"], [(1, 2), (3, 4), (2, 5)]]
    for thing in no_keys():
        told += [[(thing, 1)], [(1, thing)], [(0, 0), (thing, 1)], ((1, thing),)]
    return told


def no_calls():
    """Things that are no calls as a plain store does them, new ones each time."""
    told = no_numbers() + [0, 7, 10 ** 29, Put(1, 2), Take(1), "find", ("find",), ("find", 1, 2), ["find", 1],
                           ("take",), ("take", 1, 2), ("put", 1), ("put",), ("put", 1, 2, 3), ["put", 1, 2],
                           ("parts", 1), ("parts", 1, 2, 3), ("whole", 1), ("whole", 1, 2, 3), ["whole", 1, 2],
                           ("join", 1, 0), ("sink",), ("Find", 1), ("find ", 1), ("", 1), (1, "find"), ("end", 1),
                           (("find", 1),), ("find", (1,)), ("", ), ("find", "1"), (None, 1), ([], 1), ({}, 1, 2),
                           ("parts", 2, 2), ("parts", 2, 1), ("whole", 2, 2), ("whole", 2, 1), ("whole", None, 2),
                           ("parts", None, None), (Find(1), 1), (True, 1)]
    for thing in no_keys():
        told += [("find", thing), ("take", thing), ("put", thing, 1), ("put", 1, thing), ("parts", thing, 5),
                 ("whole", thing, None)]
        if thing is not None:
            told += [("parts", 1, thing), ("whole", 1, thing)]
    return told


class MakingTests(Checks, unittest.TestCase):
    def test_tells_its_pairs_by_keys(self):
        for pairs in ([], [(1, 2)], PAIRS, [(LEAST, GREATEST), (GREATEST, LEAST)]):
            for thing in (pairs, tuple(pairs)):
                self.assertEqual(Plain(thing).pairs(), pairs)
                self.assertIs(type(Plain(thing).pairs()), list)
                self.assertTrue(all(type(pair) is tuple for pair in Plain(thing).pairs()))

    def test_many_pairs(self):
        pairs = [(key, -key) for key in range(400)]
        self.assertEqual(Plain(pairs).pairs(), pairs)

    def test_refuses_what_are_no_pairs(self):
        for thing in no_pairs():
            self.check_refused(NoKey, "found", thing, Plain, thing)

    def test_what_is_handed_in_is_neither_changed_nor_kept(self):
        pairs = list(PAIRS)
        store = Plain(pairs)
        store.do(("put", 2, 20))
        store.do(("take", 1))
        self.assertEqual(pairs, PAIRS)
        pairs.clear()
        self.assertEqual(store.pairs(), [(2, 20), (3, 30), (5, 0), (9, -90)])

    def test_what_is_told_is_the_askers_own(self):
        store = Plain(PAIRS)
        for ask in (store.pairs, lambda: store.do(("whole", 0, None)), lambda: store.do(("parts", 0, None))):
            self.assertIsNot(ask(), ask())
            ask().clear()
            ask().append(5)
            self.assertEqual(ask(), PAIRS)

    def test_two_stores_have_nothing_in_common(self):
        first, second = Plain(PAIRS), Plain(PAIRS)
        first.do(("take", 1))
        self.assertEqual(second.pairs(), PAIRS)


class DoTests(Checks, unittest.TestCase):
    def test_find(self):
        store = Plain(PAIRS)
        for key, good in ((1, 10), (3, 30), (5, 0), (9, -90), (0, None), (2, None), (LEAST, None), (GREATEST, None)):
            self.assertEqual(store.do(("find", key)), good)
        self.assertEqual(store.pairs(), PAIRS)

    def test_put(self):
        store = Plain(PAIRS)
        self.assertIsNone(store.do(("put", 2, 20)))
        self.assertEqual(store.do(("put", 5, 55)), 0)
        self.assertEqual(store.do(("put", 5, 55)), 55)
        self.assertIsNone(store.do(("put", LEAST, GREATEST)))
        self.assertEqual(store.pairs(), [(LEAST, GREATEST), (1, 10), (2, 20), (3, 30), (5, 55), (9, -90)])

    def test_take(self):
        store = Plain(PAIRS)
        self.assertEqual(store.do(("take", 5)), 0)
        self.assertIsNone(store.do(("take", 5)))
        self.assertIsNone(store.do(("take", 4)))
        self.assertEqual(store.pairs(), [(1, 10), (3, 30), (9, -90)])

    def test_parts_and_whole(self):
        for word in ("parts", "whole"):
            store = Plain(PAIRS)
            for low, high, many in ((0, None, (0, 4)), (1, None, (0, 4)), (2, None, (1, 4)), (10, None, (4, 4)),
                                    (1, 9, (0, 3)), (1, 10, (0, 4)), (3, 4, (1, 2)), (6, 9, (0, 0)), (1, 2, (0, 1))):
                self.assertEqual(store.do((word, low, high)), PAIRS[many[0]:many[1]])
            self.assertEqual(store.do((word, LEAST, GREATEST)), PAIRS)
            self.assertEqual(Plain([]).do((word, LEAST, None)), [])
            self.assertEqual(store.pairs(), PAIRS)

    def test_calls_as_they_tell_themselves(self):
        store = Plain([])
        calls = [Put(1, 2), Find(1), Whole(0, None), Parts(0, 5), Take(1), Take(1)]
        self.assertEqual([store.do(call.told()) for call in calls], [None, 2, [(1, 2)], [(1, 2)], 2, None])

    def test_refuses_what_is_none_of_the_five(self):
        store = Plain(PAIRS)
        for thing in no_calls():
            self.check_refused(NoCall, "found", thing, store.do, thing)
        for call in (Join(1, 0), Sink()):
            thing = call.told()
            self.check_refused(NoCall, "found", thing, store.do, thing)
        self.assertEqual(store.pairs(), PAIRS)

    def test_many_calls_beside_a_dict(self):
        for seed in range(20):
            draw = random.Random(seed)
            store, plain = Plain([]), {}
            for turn in range(100):
                key, good = draw.randrange(-9, 9), draw.randrange(-9, 9)
                word = draw.choice(("find", "put", "take", "whole"))
                if word == "whole":
                    high = draw.choice((None, key + 1, key + 4))
                    keys = [one for one in sorted(plain) if key <= one and (high is None or one < high)]
                    self.assertEqual(store.do((word, key, high)), [(one, plain[one]) for one in keys])
                    continue
                before = plain.get(key)
                if word == "put":
                    plain[key] = good
                elif word == "take":
                    plain.pop(key, None)
                self.assertEqual(store.do((word, key, good) if word == "put" else (word, key)), before)
                self.assertEqual(store.pairs(), sorted(plain.items()))


if __name__ == "__main__":
    unittest.main()
