"""Papers: points 91 and 92, and the interface of nolocktree/papers.py."""

import random
import unittest

from nolocktree.errors import NoCall, NoKey
from nolocktree.finds import Find
from nolocktree.joins import Join, Sink
from nolocktree.papers import order_of, shows_history
from nolocktree.puts import Put
from nolocktree.shapes import pairs_of
from nolocktree.stretches import Parts, Whole
from nolocktree.takes import Take
from tests.test_plain import no_calls, no_pairs
from tests.things import GREATEST, LEAST, Checks, deep, even_tree, no_keys, no_numbers, odd_things, scene_of, turns_of

PAIRS = [(0, 100), (5, 105), (10, 110), (15, 115)]


def history():
    """A history of all kinds of calls over PAIRS, a new one each time."""
    return [
        (0, ("find", 5), 0, 3, 3, 105),
        (1, ("put", 7, 70), 0, 5, 9, None),
        (2, ("take", 10), 1, 8, 8, 110),
        (4, ("parts", 3, 30), 2, None, 14, [
            (4, 3, 10, [(5, 105)]),
            (7, 10, 12, [(10, 110)]),
            (12, 12, 30, [(15, 115)])]),
        (5, ("whole", 0, None), 4, 10, 13, [(0, 100), (5, 105), (7, 70), (15, 115)]),
        (6, ("join", 3, 0), 0, 11, 11, True),
        (7, ("sink",), 10, 13, 15, False),
        (9, ("parts", 8, None), 0, None, 20, [(17, 8, None, [(15, 115)])]),
        (10, ("find", 10), 16, 18, 18, None),
        (11, ("put", 7, 71), 18, 19, 25, 70),
    ]


ORDER = [(3, 0), (4, 4), (5, 1), (7, 4), (8, 2), (10, 5), (11, 6), (12, 4), (13, 7), (17, 9), (18, 10), (19, 11)]


def changed(row, field, thing):
    """The history with another thing in a field of a row."""
    told = history()
    told[row] = told[row][:field] + (thing,) + told[row][field + 1:]
    return told


def changed_part(row, at, field, thing):
    """The history with another thing in a field of a part."""
    told = history()
    part = told[row][5][at]
    told[row][5][at] = part[:field] + (thing,) + part[field + 1:]
    return told


class ShownTests(Checks, unittest.TestCase):
    def check_shown(self, pairs, thing, shown):
        """That it is told so of the thing, and that the order is told, or refused, likewise."""
        self.assertIs(shows_history(pairs, thing), shown)
        if shown:
            order = order_of(pairs, thing)
            self.assertEqual(order, sorted(order))
        else:
            self.check_refused(NoCall, "found", thing, order_of, pairs, thing)


class OrdinaryTests(ShownTests):
    def test_one_of_all_kinds(self):
        self.check_shown(PAIRS, history(), True)
        self.check_shown(tuple(PAIRS), history(), True)

    def test_its_order(self):
        self.assertEqual(order_of(PAIRS, history()), ORDER)
        self.assertIs(type(order_of(PAIRS, history())), list)
        self.assertTrue(all(type(one) is tuple for one in order_of(PAIRS, history())))

    def test_an_empty_one(self):
        for pairs in ([], (), PAIRS):
            self.check_shown(pairs, [], True)
            self.assertEqual(order_of(pairs, []), [])

    def test_with_other_pairs(self):
        for pairs in ([], PAIRS[:3], PAIRS[1:], [(0, 100), (5, 106), (10, 110), (15, 115)], PAIRS + [(20, 1)]):
            self.check_shown(pairs, history(), False)

    def test_each_row_left_out(self):
        # What only reads, or changes no pairs, may be left out; of what a later one has seen this is not so.
        for at, shown in enumerate((True, False, False, True, True, True, True, True, True, True)):
            told = history()
            told.pop(at)
            self.check_shown(PAIRS, told, shown)

    def test_one_call_of_each_kind_alone(self):
        rows = {
            ("find", 5): (105, None), ("find", 6): (None, 106), ("put", 5, 1): (105, None), ("put", 6, 1): (None, 1),
            ("take", 5): (105, None), ("take", 6): (None, 6), ("join", 5, 60): (True, None), ("sink",): (False, 0),
            ("whole", 4, 11): ([(5, 105), (10, 110)], [(5, 105)]), ("whole", 6, 7): ([], None),
            ("whole", 11, None): ([(15, 115)], []),
        }
        for call, (answer, wrong) in rows.items():
            self.check_shown(PAIRS, [(0, call, 0, 1, 1, answer)], True)
            self.check_shown(PAIRS, [(0, call, 0, 1, 1, wrong)], False)
        self.check_shown(PAIRS, [(0, ("parts", 4, 11), 0, None, 1, [(1, 4, 11, [(5, 105), (10, 110)])])], True)
        self.check_shown(PAIRS, [(0, ("parts", 4, 11), 0, None, 1, [(1, 4, 11, [(5, 105)])])], False)

    def test_moments_tell_the_order_and_not_the_rows(self):
        for first, second, shown in ((1, 2, True), (2, 1, False)):
            told = [(0, ("put", 6, 60), 0, first, 5, None), (1, ("find", 6), 0, second, 5, 60)]
            self.check_shown(PAIRS, told, shown)
            told = [(0, ("find", 6), 0, second, 5, 60), (1, ("put", 6, 60), 0, first, 5, None)]
            self.check_shown(PAIRS, told, shown)

    def test_great_numbers(self):
        great = 10 ** 29
        told = [(great, ("find", 5), great, great + 1, great + 1, 105), (great + 1, ("sink",), 0, great, great, True)]
        self.check_shown(PAIRS, told, True)
        self.assertEqual(order_of(PAIRS, told), [(great, great + 1), (great + 1, great)])

    def test_nothing_is_changed(self):
        pairs, told = list(PAIRS), history()
        shows_history(pairs, told)
        order_of(pairs, told).clear()
        self.assertEqual((pairs, told), (PAIRS, history()))

    def test_the_order_is_the_askers_own(self):
        told = history()
        self.assertIsNot(order_of(PAIRS, told), order_of(PAIRS, told))


class RefusedTests(Checks, unittest.TestCase):
    def test_pairs_come_first(self):
        for thing in no_pairs():
            self.check_refused(NoKey, "found", thing, shows_history, thing, history())
            self.check_refused(NoKey, "found", thing, shows_history, thing, "history")
            self.check_refused(NoKey, "found", thing, order_of, thing, history())
            self.check_refused(NoKey, "found", thing, order_of, thing, None)


class OtherThingTests(ShownTests):
    """One thing otherwise, at each place that the point names."""

    def test_what_is_no_list(self):
        for thing in odd_things() + [0, 5, 10 ** 29, (), tuple(history()), {0: history()}, "[]"]:
            self.check_shown(PAIRS, thing, False)

    def test_what_is_no_list_of_rows(self):
        for thing in no_numbers() + [0, -1, deep(7), "row", ("find", 5)]:
            self.check_shown(PAIRS, [thing], False)
            self.check_shown(PAIRS, history() + [thing], False)
            self.check_shown(PAIRS, [thing] + history(), False)
        for row in history():
            self.check_shown(PAIRS, [list(row)], False)
            self.check_shown(PAIRS, [row[:5]], False)
            self.check_shown(PAIRS, [row + (None,)], False)

    def test_rows_within_rows(self):
        self.check_shown(PAIRS, [history()], False)
        self.check_shown(PAIRS, [tuple(history()[:6])], False)
        self.check_shown(PAIRS, [(history(),) * 6], False)
        self.check_shown(PAIRS, changed(0, 5, history()), False)
        self.check_shown(PAIRS, changed(4, 5, history()), False)
        self.check_shown(PAIRS, changed(3, 5, history()), False)

    def test_numbers(self):
        for thing in no_numbers() + [-1, -10 ** 29]:
            self.check_shown(PAIRS, changed(0, 0, thing), False)
        for thing in (0, 1, 2, 5, 10 ** 29):
            self.check_shown(PAIRS, changed(1, 0, thing), thing == 1)
        self.check_shown(PAIRS, changed(9, 0, 10 ** 29), True)
        self.check_shown(PAIRS, changed(2, 0, 3), True)

    def test_calls(self):
        for thing in no_calls():
            if thing not in (("join", 1, 0), ("sink",)):
                for row in (0, 1, 4, 5):
                    self.check_shown(PAIRS, changed(row, 1, thing), False)
        for thing in no_numbers() + [-1, 61, 10 ** 29]:
            self.check_shown(PAIRS, changed(5, 1, ("join", 3, thing)), False)
        for thing in no_keys():
            self.check_shown(PAIRS, changed(5, 1, ("join", thing, 0)), False)
        for thing in (("join", 3), ("join", 3, 0, 0), ["join", 3, 0], ("sink", 3), ("sink", None), ["sink"], "sink",
                      ("Sink",)):
            self.check_shown(PAIRS, changed(5, 1, thing), False)
        for thing in (("join", LEAST, 0), ("join", GREATEST, 60), ("sink",)):
            self.check_shown(PAIRS, changed(5, 1, thing), True)

    def test_began(self):
        for row in (0, 3, 5, 6):
            for thing in no_numbers() + [-1, -10 ** 29]:
                self.check_shown(PAIRS, changed(row, 2, thing), False)
        for row, moment in ((0, 3), (1, 5), (2, 8), (3, 4), (4, 10), (5, 11), (6, 13), (7, 17)):
            self.check_shown(PAIRS, changed(row, 2, moment - 1), True)
            self.check_shown(PAIRS, changed(row, 2, moment), False)
            self.check_shown(PAIRS, changed(row, 2, 0), True)

    def test_ended(self):
        for row in (0, 3, 5, 6):
            for thing in no_numbers() + [-1, -10 ** 29]:
                self.check_shown(PAIRS, changed(row, 4, thing), False)
        for row, moment in ((0, 3), (1, 5), (2, 8), (3, 12), (4, 10), (5, 11), (6, 13), (7, 17)):
            self.check_shown(PAIRS, changed(row, 4, moment), True)
            self.check_shown(PAIRS, changed(row, 4, moment - 1), False)
            self.check_shown(PAIRS, changed(row, 4, 10 ** 29), True)

    def test_moments(self):
        for row in (0, 1, 2, 4, 5, 6):
            for thing in no_numbers():
                self.check_shown(PAIRS, changed(row, 3, thing), False)
        for thing in no_numbers() + [3, 5, 10]:
            self.check_shown(PAIRS, changed(3, 3, thing), thing is None)
        for thing in (0, 4, 10 ** 29):
            self.check_shown(PAIRS, changed(0, 3, thing), False)
        for thing in (1, 2, 3):
            self.check_shown(PAIRS, changed(0, 3, thing), True)

    def test_moments_that_stand_twice(self):
        told = [(0, ("find", 5), 0, 3, 9, 105), (1, ("find", 6), 0, 3, 9, None)]
        self.check_shown(PAIRS, told, False)
        self.check_shown(PAIRS, changed(5, 3, 3), False)
        self.check_shown(PAIRS, changed(5, 3, 6), True)
        self.check_shown(PAIRS, changed(6, 3, 12), False)
        self.check_shown(PAIRS, changed(6, 3, 14), True)
        self.check_shown(PAIRS, [(0, ("sink",), 0, 1, 1, True), (1, ("join", 1, 1), 0, 1, 1, True)], False)
        part = [(2, 3, 5, []), (4, 5, 6, [(5, 105)])]
        told = [(0, ("parts", 3, 6), 0, None, 9, part), (1, ("parts", 3, 6), 0, None, 9, part)]
        self.check_shown(PAIRS, told, False)
        told[1] = (1, ("parts", 3, 6), 0, None, 9, [(3, 3, 5, []), (5, 5, 6, [(5, 105)])])
        self.check_shown(PAIRS, told, True)

    def test_answers(self):
        for row in (0, 1, 2, 8):
            for thing in no_keys():
                right = thing is None and history()[row][5] is None
                self.check_shown(PAIRS, changed(row, 5, thing), right)
        for row in (5, 6):
            for thing in no_keys() + [0, 1]:
                self.check_shown(PAIRS, changed(row, 5, thing), thing is True or thing is False)

    def test_answers_of_wholes(self):
        right = history()[4][5]
        for thing in no_pairs() + [None, [], tuple(right), right[1:], right + [(20, 1)], right[:1] + right,
                                   [(0, 100), (5, 105), (7, 71), (15, 115)]]:
            self.check_shown(PAIRS, changed(4, 5, thing), False)
        self.check_shown(PAIRS, changed(4, 5, list(right)), True)

    def test_goods_that_are_nearly_right(self):
        pairs = [(0, 0), (1, 1)]
        for key, right, wrong in ((0, 0, False), (1, 1, True)):
            self.check_shown(pairs, [(0, ("find", key), 0, 1, 1, right)], True)
            self.check_shown(pairs, [(0, ("find", key), 0, 1, 1, wrong)], False)
            self.check_shown(pairs, [(0, ("whole", key, key + 1), 0, 1, 1, [(key, right)])], True)
            self.check_shown(pairs, [(0, ("whole", key, key + 1), 0, 1, 1, [(key, wrong)])], False)
            self.check_shown(pairs, [(0, ("whole", key, key + 1), 0, 1, 1, [(wrong, right)])], False)
        self.check_shown(pairs, [(0, ("parts", 1, 2), 0, None, 1, [(1, 1, 2, [(1, 1)])])], True)
        for part in ((True, 1, 2, [(1, 1)]), (1, True, 2, [(1, 1)]), (1, 1, 2, [(True, 1)]), (1, 1, 2, [(1, True)])):
            self.check_shown(pairs, [(0, ("parts", 1, 2), 0, None, 1, [part])], False)
        self.check_shown(pairs, [(0, ("parts", 0, 1), 0, None, 1, [(1, 0, True, [(0, 0)])])], False)

    def test_answers_of_parts(self):
        parts = history()[3][5]
        for thing in no_numbers() + [0, tuple(parts), parts[:2], parts[1:], parts[:1] + parts[2:], parts[:1] + parts,
                                     parts[::-1], [list(part) for part in parts], [part[:3] for part in parts],
                                     [part + (None,) for part in parts], parts + [None], [None] + parts]:
            self.check_shown(PAIRS, changed(3, 5, thing), False)

    def test_moments_of_parts(self):
        for at in (0, 1, 2):
            for thing in no_numbers() + [-1, 0, 2, 3, 10 ** 29]:
                self.check_shown(PAIRS, changed_part(3, at, 0, thing), False)
        # Rising, and each at a step at which the store tells so.
        self.check_shown(PAIRS, changed_part(3, 1, 0, 6), True)
        self.check_shown(PAIRS, changed_part(3, 1, 0, 9), False)
        self.check_shown(PAIRS, changed_part(3, 2, 0, 14), True)
        self.check_shown(PAIRS, changed_part(3, 2, 0, 15), False)
        self.check_shown(PAIRS, changed_part(3, 2, 0, 6), False)
        self.check_shown(PAIRS, changed_part(3, 1, 0, 4), False)
        self.check_shown(PAIRS, changed_part(3, 0, 0, 6), False)

    def test_where_parts_begin_and_end(self):
        for at in (0, 1, 2):
            for field in (1, 2):
                for thing in no_keys() + [2, 4, 9, 11, 13, 29, 31, GREATEST]:
                    self.check_shown(PAIRS, changed_part(3, at, field, thing), False)
        for thing in no_keys() + [16, 30, GREATEST]:
            self.check_shown(PAIRS, changed_part(7, 0, 2, thing), thing is None)

    def test_an_end_that_is_not_above_its_beginning(self):
        for middle in (3, 2, 30, 31, None):
            told = changed(3, 5, [(4, 3, middle, []), (7, middle, 30, [])])
            self.check_shown(PAIRS, told, False)
        told = changed(3, 5, [(4, 3, 16, [(5, 105), (10, 110), (15, 115)]), (7, 16, 30, [])])
        self.check_shown(PAIRS, told, True)

    def test_pairs_of_parts(self):
        for at in (0, 1, 2):
            for thing in no_pairs() + [None, [], ((5, 105),), [(5, 106)], [(10, 110), (5, 105)], [(20, 1)]]:
                self.check_shown(PAIRS, changed_part(3, at, 3, thing), False)

    def test_the_high_of_parts(self):
        self.check_shown(PAIRS, changed(3, 1, ("parts", 3, None)), False)
        self.check_shown(PAIRS, changed(3, 1, ("parts", 3, 31)), False)
        self.check_shown(PAIRS, changed(3, 1, ("parts", 2, 30)), False)
        self.check_shown(PAIRS, changed(7, 1, ("parts", 8, 30)), False)
        self.check_shown(PAIRS, changed(3, 1, ("whole", 3, 30)), False)
        self.check_shown(PAIRS, changed(4, 1, ("parts", 0, None)), False)

    def test_parts_that_are_shown_at_no_single_moment(self):
        told = [(0, ("put", 5, 1), 0, 2, 2, 105), (1, ("put", 10, 2), 0, 4, 4, 110),
                (2, ("parts", 0, 20), 0, None, 9, [(5, 0, 7, [(0, 100), (5, 1)]), (6, 7, 20, [(10, 2), (15, 115)])])]
        self.check_shown(PAIRS, told, True)
        told[2] = (2, ("parts", 0, 20), 0, None, 9, [(1, 0, 7, [(0, 100), (5, 105)]), (6, 7, 20, [(10, 2), (15, 115)])])
        self.check_shown(PAIRS, told, True)
        whole = [(0, 100), (5, 105), (10, 2), (15, 115)]
        for moment in (1, 3, 5):
            told[2] = (2, ("whole", 0, 20), 0, moment, 9, whole)
            self.check_shown(PAIRS, told, False)


class SceneTests(unittest.TestCase):
    """Histories that scenes told."""

    def test_one_call_behind_the_other(self):
        calls = [Find(5), Put(7, 1), Whole(0, None), Join(0, 0), Parts(5, 31), Take(7), Sink(), Find(7), Parts(0, None)]
        tree = even_tree(3, 3)
        scene = scene_of(tree, *calls)
        pairs = pairs_of(tree)
        self.assertIs(shows_history(pairs, scene.history()), True)
        for number in range(len(calls)):
            turns_of(scene, number)
            self.assertIs(shows_history(pairs, scene.history()), True)
        self.assertIs(shows_history(pairs[1:], scene.history()), False)
        order = order_of(pairs, scene.history())
        told = [(row[3], row[0]) for row in scene.history() if row[3] is not None]
        told += [(part[0], row[0]) for row in scene.history() if row[3] is None for part in row[5]]
        self.assertEqual(order, sorted(told))

    def test_drawn_weavings_of_all_kinds(self):
        for seed in range(60):
            draw = random.Random(seed)
            tree = even_tree(3, draw.choice((2, 3, 5)))
            keys = [draw.randrange(40) for call in range(7)]
            scene = scene_of(tree, Find(keys[0]), Put(keys[1], 1), Take(keys[2] // 5 * 5), Join(keys[3], 0), Sink(),
                             Parts(keys[4], None), Whole(keys[5], keys[5] + 20), Join(0, 1), Put(keys[6], 2))
            while scene.going():
                scene.turn(draw.choice(scene.ready()))
            self.assertIs(shows_history(pairs_of(tree), scene.history()), True)
            self.spoil(draw, pairs_of(tree), scene.history())

    def spoil(self, draw, pairs, told):
        """That a found good, or a pair of a whole, told otherwise is not shown."""
        rows = [at for at, row in enumerate(told) if row[1][0] in ("find", "put", "take")]
        at = draw.choice(rows)
        for answer in (None, 77, 10005, 1, 2):
            if answer != told[at][5]:
                self.assertIs(shows_history(pairs, told[:at] + [told[at][:5] + (answer,)] + told[at + 1:]), False)
        for at, row in enumerate(told):
            if row[1][0] == "whole" and row[5]:
                self.assertIs(shows_history(pairs, told[:at] + [row[:5] + (row[5][1:],)] + told[at + 1:]), False)


if __name__ == "__main__":
    unittest.main()
