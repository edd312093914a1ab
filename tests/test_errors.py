"""Refusals: points 3 and 5, and the interface of nolocktree/errors.py."""

import unittest

from nolocktree import errors
from nolocktree.errors import TreeError
from tests.things import no_keys

FIELDS = {
    "NoKey": ("found",), "NoGood": ("found",), "NoPage": ("found",), "NoPlace": ("found",),
    "NoMost": ("found",), "NoLevel": ("found",), "NoDoer": ("found",), "NoTree": ("found",),
    "NoCall": ("found",), "NoText": ("found",), "NoLine": ("found",), "NoNumber": ("found",),
    "Lacks": ("key",), "Has": ("key",), "NoJoin": ("key",),
    "TooMany": ("count",), "TooFew": ("count",),
    "NoSpan": ("low", "high"), "NoEdge": ("high", "right"),
    "Held": ("place", "holder"), "NotHeld": ("place", "doer"), "Gone": ("place",),
    "Twice": ("found",),
    "Ended": ("doer",), "Going": ("doer",), "Waits": ("doer", "place"),
    "NoWeaving": ("found",), "BadLine": ("row",), "NoShape": ("found",),
}


def classes():
    """Each refusal's class with the names of its fields."""
    return [(getattr(errors, name), fields) for name, fields in FIELDS.items()]


def many_things():
    """Any things, whole numbers among them."""
    return no_keys() + [0, 7, -7, 10 ** 29, (1, [2, {"a": (3,)}])]


class TreeErrorTests(unittest.TestCase):
    def test_stands_straight_under_value_error(self):
        self.assertEqual(TreeError.__bases__, (ValueError,))

    def test_is_made_of_a_text(self):
        for text in ("", "words", "a\nb ~"):
            error = TreeError(text)
            self.assertEqual(str(error), text)
            self.assertIs(type(error), TreeError)


class RefusalTests(unittest.TestCase):
    def test_there_are_twenty_nine_and_no_more(self):
        found = [name for name, thing in vars(errors).items()
                 if isinstance(thing, type) and issubclass(thing, TreeError) and thing is not TreeError]
        self.assertEqual(sorted(found), sorted(FIELDS))
        self.assertEqual(len(found), 29)

    def test_each_stands_straight_under_tree_error(self):
        for kind, fields in classes():
            self.assertEqual(kind.__bases__, (TreeError,))

    def test_none_is_another_under_two_names(self):
        kinds = [kind for kind, fields in classes()]
        self.assertEqual(len(set(kinds)), 29)
        self.assertEqual([kind.__name__ for kind in kinds], list(FIELDS))

    def test_fields_hold_the_very_things(self):
        for kind, fields in classes():
            things = many_things()
            for at, thing in enumerate(things):
                given = [thing, things[at - 1]][:len(fields)]
                error = kind(*given)
                self.assertEqual(list(vars(error)), list(fields))
                for field, one in zip(fields, given):
                    self.assertIs(getattr(error, field), one)

    def test_a_field_follows_what_is_done_to_the_thing(self):
        # Fields are no copies: the thing itself is there.
        for kind, fields in classes():
            thing = [1]
            error = kind(*[thing] * len(fields))
            thing.append(2)
            for field in fields:
                self.assertIs(getattr(error, field), thing)

    def test_each_is_caught_by_its_class_by_tree_error_and_by_value_error(self):
        for kind, fields in classes():
            for catcher in (kind, TreeError, ValueError):
                with self.assertRaises(catcher):
                    raise kind(*fields)

    def test_each_has_words_that_hang_on_its_class_alone(self):
        for kind, fields in classes():
            words = [str(kind(*[thing] * len(fields))) for thing in many_things()]
            self.assertNotEqual(words[0], "")
            self.assertEqual(words, [words[0]] * len(words))

    def test_each_takes_just_its_fields(self):
        for kind, fields in classes():
            for many in (0, len(fields) + 1):
                with self.assertRaises(TypeError):
                    kind(*["x"] * many)


if __name__ == "__main__":
    unittest.main()
