"""Calls: point 50 so far as it speaks of what each call tells, and the interface of nolocktree/calls.py."""

import unittest

from nolocktree.calls import Call


class Mend(Call):
    """A kind of call for these tests alone."""

    def __init__(self, key, good):
        Call.__init__(self, ("mend", key, good))


class CallTests(unittest.TestCase):
    def test_a_call_tells_its_word_and_then_what_it_was_made_of(self):
        told = Mend(3, None).told()
        self.assertIs(type(told), tuple)
        self.assertEqual(told, ("mend", 3, None))

    def test_it_tells_the_same_each_time(self):
        call = Mend(3, 4)
        self.assertEqual(call.told(), call.told())
        self.assertEqual(call.told(), Mend(3, 4).told())

    def test_two_calls_have_nothing_in_common(self):
        first, second = Mend(1, 2), Mend(3, 4)
        self.assertEqual((first.told(), second.told()), (("mend", 1, 2), ("mend", 3, 4)))


if __name__ == "__main__":
    unittest.main()
