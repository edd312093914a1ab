"""Places and who may still look: points 30 to 33, and the interface of nolocktree/rounds.py."""

import random
import unittest

from nolocktree.errors import NoDoer, NoPlace, Twice
from nolocktree.rounds import Rounds
from tests.things import Checks, no_doers, no_numbers, told_rounds


def given_many(many):
    """A Rounds that has given so many places."""
    rounds = Rounds()
    for place in range(many):
        rounds.given()
    return rounds


def busy_rounds():
    """A Rounds with places of each kind, and calls that go on."""
    rounds = given_many(6)
    rounds.went(4)
    rounds.went(1)
    rounds.enter(7)
    rounds.went(3)
    rounds.enter(2)
    rounds.went(0)
    return rounds


class FirstTests(unittest.TestCase):
    def test_a_new_one(self):
        self.assertEqual(told_rounds(Rounds()), (0, [], [], [], []))

    def test_kinds_of_what_is_told(self):
        rounds = busy_rounds()
        for told in (rounds.used(), rounds.kept(), rounds.free(), rounds.going()):
            self.assertIs(type(told), list)
            self.assertNotEqual(told, [])
        for told in rounds.kept() + rounds.going():
            self.assertIs(type(told), tuple)
        self.assertIs(type(rounds.lap()), int)

    def test_deeds_tell_none_but_given(self):
        rounds = Rounds()
        self.assertEqual(rounds.given(), 0)
        self.assertIs(type(rounds.given()), int)
        self.assertIsNone(rounds.enter(0))
        self.assertIsNone(rounds.went(0))
        self.assertIsNone(rounds.leave(0))


class GivenTests(unittest.TestCase):
    def test_places_that_were_never_given_rise_from_nought(self):
        rounds = Rounds()
        for place in range(30):
            self.assertEqual(rounds.given(), place)
            self.assertEqual(told_rounds(rounds), (0, list(range(place + 1)), [], [], []))

    def test_the_least_free_one_comes_first(self):
        rounds = given_many(5)
        for place in (3, 0, 2):
            rounds.went(place)
        self.assertEqual(rounds.free(), [0, 2, 3])
        self.assertEqual([rounds.given() for turn in range(5)], [0, 2, 3, 5, 6])

    def test_a_kept_one_is_not_given(self):
        rounds = given_many(3)
        rounds.enter(0)
        rounds.went(0)
        rounds.went(1)
        self.assertEqual(rounds.given(), 3)
        rounds.leave(0)
        self.assertEqual([rounds.given() for turn in range(3)], [0, 1, 4])

    def test_used_ones_rise_in_whatever_order_they_were_given(self):
        rounds = given_many(4)
        rounds.went(1)
        rounds.went(3)
        rounds.given()
        self.assertEqual(rounds.used(), [0, 1, 2])
        rounds.given()
        self.assertEqual(rounds.used(), [0, 1, 2, 3])


class WentTests(unittest.TestCase):
    def test_free_at_once_where_no_call_goes_on(self):
        rounds = given_many(3)
        rounds.went(1)
        self.assertEqual(told_rounds(rounds), (1, [0, 2], [], [1], []))
        rounds.went(0)
        self.assertEqual(told_rounds(rounds), (2, [2], [], [0, 1], []))

    def test_kept_with_the_lap_ahead_of_its_going(self):
        rounds = given_many(3)
        rounds.enter(9)
        for turn, place in enumerate((2, 0, 1)):
            self.assertEqual(rounds.lap(), turn)
            rounds.went(place)
            self.assertEqual(rounds.lap(), turn + 1)
        self.assertEqual(rounds.kept(), [(2, 0), (0, 1), (1, 2)])
        self.assertEqual((rounds.used(), rounds.free()), ([], []))

    def test_kept_ones_stand_in_the_order_in_which_they_went(self):
        rounds = given_many(2)
        rounds.went(0)
        rounds.enter(0)
        rounds.went(1)
        self.assertEqual(rounds.given(), 0)
        rounds.went(0)
        self.assertEqual(rounds.kept(), [(1, 1), (0, 2)])

    def test_gone_given_and_gone_again(self):
        rounds = given_many(1)
        for turn in range(4):
            rounds.enter(1)
            rounds.went(0)
            self.assertEqual(told_rounds(rounds), (turn + 1, [], [(0, turn)], [], [(1, turn)]))
            rounds.leave(1)
            self.assertEqual(rounds.free(), [0])
            self.assertEqual(rounds.given(), 0)


class CallTests(unittest.TestCase):
    def test_a_call_enters_with_the_lap_as_it_is(self):
        rounds = given_many(2)
        rounds.enter(5)
        rounds.went(0)
        rounds.enter(3)
        rounds.enter(4)
        self.assertEqual(rounds.going(), [(5, 0), (3, 1), (4, 1)])

    def test_leaves_and_enters_again_behind_the_others(self):
        rounds = given_many(1)
        rounds.enter(5)
        rounds.enter(3)
        rounds.leave(5)
        self.assertEqual(rounds.going(), [(3, 0)])
        rounds.went(0)
        rounds.enter(5)
        self.assertEqual(rounds.going(), [(3, 0), (5, 1)])

    def test_numbers_at_either_bound(self):
        rounds = Rounds()
        rounds.enter(10 ** 6)
        rounds.enter(0)
        self.assertEqual(rounds.going(), [(10 ** 6, 0), (0, 0)])
        rounds.leave(10 ** 6)
        rounds.leave(0)
        self.assertEqual(rounds.going(), [])

    def test_entering_and_leaving_turn_no_lap(self):
        rounds = Rounds()
        rounds.enter(1)
        rounds.leave(1)
        self.assertEqual(rounds.lap(), 0)


class ReleaseTests(unittest.TestCase):
    def test_kept_until_the_last_call_leaves_that_went_on_when_it_went(self):
        for order in ((1, 2, 3), (3, 2, 1), (2, 3, 1), (3, 1, 2)):
            rounds = given_many(1)
            for number in (1, 2, 3):
                rounds.enter(number)
            rounds.went(0)
            for number in order[:2]:
                rounds.leave(number)
                self.assertEqual((rounds.kept(), rounds.free()), ([(0, 0)], []))
            rounds.leave(order[2])
            self.assertEqual((rounds.kept(), rounds.free()), ([], [0]))

    def test_a_call_that_enters_behind_the_going_keeps_nothing(self):
        rounds = given_many(1)
        rounds.enter(1)
        rounds.went(0)
        rounds.enter(2)
        rounds.leave(1)
        self.assertEqual((rounds.kept(), rounds.free(), rounds.going()), ([], [0], [(2, 1)]))

    def test_each_place_by_its_own_calls(self):
        rounds = given_many(3)
        rounds.enter(1)
        rounds.went(2)
        rounds.enter(2)
        rounds.went(1)
        rounds.enter(3)
        rounds.went(0)
        self.assertEqual(rounds.kept(), [(2, 0), (1, 1), (0, 2)])
        rounds.leave(1)
        self.assertEqual((rounds.kept(), rounds.free()), ([(1, 1), (0, 2)], [2]))
        rounds.leave(3)
        self.assertEqual((rounds.kept(), rounds.free()), ([(1, 1), (0, 2)], [2]))
        rounds.leave(2)
        self.assertEqual((rounds.kept(), rounds.free()), ([], [0, 1, 2]))

    def test_a_call_that_enters_again_does_not_keep_what_went_ahead(self):
        rounds = given_many(1)
        rounds.enter(1)
        rounds.went(0)
        rounds.leave(1)
        rounds.enter(1)
        self.assertEqual((rounds.kept(), rounds.free(), rounds.going()), ([], [0], [(1, 1)]))

    def test_drawn_deeds_beside_a_plain_reckoning(self):
        for seed in range(60):
            self.check_drawn(random.Random(seed))

    def check_drawn(self, draw):
        """That drawn deeds go as by a store that notes, for each place that went, the calls to wait for."""
        rounds, used, awaited, going = Rounds(), set(), {}, set()
        for turn in range(80):
            word = draw.choice(("given", "given", "went", "enter", "leave"))
            if word == "given":
                free = [place for place, calls in awaited.items() if not calls]
                place = min(free) if free else len(used) + len(awaited)
                awaited.pop(place, None)
                used.add(place)
                self.assertEqual(rounds.given(), place)
            elif word == "went" and used:
                place = draw.choice(sorted(used))
                used.remove(place)
                awaited[place] = set(going)
                rounds.went(place)
            elif word == "enter" and len(going) < 5:
                number = draw.choice([one for one in range(6) if one not in going])
                going.add(number)
                rounds.enter(number)
            elif word == "leave" and going:
                number = draw.choice(sorted(going))
                going.remove(number)
                for calls in awaited.values():
                    calls.discard(number)
                rounds.leave(number)
            self.assertEqual(rounds.used(), sorted(used))
            self.assertEqual(rounds.free(), sorted(place for place, calls in awaited.items() if not calls))
            kept = [place for place, calls in awaited.items() if calls]
            self.assertEqual([place for place, lap in rounds.kept()], kept)
            self.assertEqual({number for number, lap in rounds.going()}, going)


class RefusalTests(Checks, unittest.TestCase):
    def check_stays(self, rounds, kind, thing, deed):
        """That the deed refuses the very thing, and nothing changes."""
        before = told_rounds(rounds)
        self.check_refused(kind, "found", thing, deed, thing)
        self.assertEqual(told_rounds(rounds), before)

    def test_what_is_to_go_and_is_no_place_in_use(self):
        rounds = busy_rounds()
        self.assertEqual(told_rounds(rounds), (4, [2, 5], [(3, 2), (0, 3)], [1, 4], [(7, 2), (2, 3)]))
        for thing in no_numbers() + [-1, 0, 1, 3, 4, 6, 10 ** 29]:
            self.check_stays(rounds, NoPlace, thing, rounds.went)

    def test_truths_are_no_places_and_no_numbers(self):
        rounds = given_many(2)
        for thing in (True, False):
            self.check_stays(rounds, NoPlace, thing, rounds.went)
            self.check_stays(rounds, NoDoer, thing, rounds.enter)
        rounds.enter(0)
        rounds.enter(1)
        for thing in (True, False):
            self.check_stays(rounds, NoDoer, thing, rounds.enter)
            self.check_stays(rounds, NoDoer, thing, rounds.leave)

    def test_what_enters_and_is_no_number_of_a_doer(self):
        for rounds in (Rounds(), busy_rounds()):
            for thing in no_doers():
                self.check_stays(rounds, NoDoer, thing, rounds.enter)

    def test_what_enters_and_goes_on_already(self):
        rounds = busy_rounds()
        rounds.enter(10 ** 6)
        for thing in (7, 2, int("1000000")):
            self.check_stays(rounds, Twice, thing, rounds.enter)

    def test_what_leaves_and_does_not_go_on(self):
        rounds = busy_rounds()
        for thing in no_doers() + [0, 1, 3, 10 ** 6]:
            self.check_stays(rounds, NoDoer, thing, rounds.leave)
        rounds.leave(7)
        self.check_stays(rounds, NoDoer, 7, rounds.leave)


class OwnTests(Checks, unittest.TestCase):
    def test_told_lists_are_the_askers_own(self):
        rounds = busy_rounds()
        before = told_rounds(rounds)
        for tell in (rounds.used, rounds.kept, rounds.free, rounds.going):
            self.assertIsNot(tell(), tell())
            tell().clear()
            tell().append(99)
        self.assertEqual(told_rounds(rounds), before)

    def test_a_twin_tells_the_same(self):
        for rounds in (Rounds(), given_many(3), busy_rounds()):
            twin = rounds.twin()
            self.assertIs(type(twin), Rounds)
            self.assertIsNot(twin, rounds)
            self.assertEqual(told_rounds(twin), told_rounds(rounds))

    def test_a_twin_goes_its_own_way(self):
        deeds = [lambda one: one.given(), lambda one: one.went(2), lambda one: one.enter(8), lambda one: one.leave(7)]
        self.check_own_ways(busy_rounds, told_rounds, deeds, lambda one: one.given())

    def test_two_new_ones_have_nothing_in_common(self):
        first, second = Rounds(), Rounds()
        first.given()
        first.enter(1)
        self.assertEqual(told_rounds(second), (0, [], [], [], []))

    def test_asking_changes_nothing(self):
        rounds = busy_rounds()
        before = told_rounds(rounds)
        rounds.twin()
        self.assertEqual(told_rounds(rounds), before)


if __name__ == "__main__":
    unittest.main()
