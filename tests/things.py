"""Things to hand in, and a look at refusals, for all tests."""

from nolocktree.errors import NoKey, TreeError
from nolocktree.pages import Inner, Leaf

LEAST = -999999999
GREATEST = 999999999


def deep(depth):
    """Lists within one another, so many of them."""
    thing = []
    for turn in range(depth - 1):
        thing = [thing]
    return thing


def odd_things():
    """Things that are no whole numbers, no lists and no tuples, new ones each time."""
    return [
        None, True, False, "", "1", "key", "~ \n", {}, {1: 2}, {"a": [1, (2, {})]},
        Leaf([], []), Leaf([1], [2]), Inner([], [0]), NoKey(5), TreeError("words"),
    ]


def no_numbers():
    """Things that are no whole numbers, rows among them, new ones each time."""
    return odd_things() + [[], [1], (), (1,), [[1]], deep(8), ({},), [None], (True,)]


def no_keys():
    """Things that are no keys, nor goods, new ones each time."""
    return no_numbers() + [LEAST - 1, GREATEST + 1, 10 ** 29, 10 ** 30 - 1, 1 - 10 ** 30]


def no_pages():
    """Things that are no pages of either kind, new ones each time."""
    plain = [thing for thing in no_keys() if not isinstance(thing, (Leaf, Inner))]
    return plain + [0, 5, ([1], [2])]


def refusal(deed, *given):
    """The error with which the deed refuses what it is given; None where it does not refuse."""
    try:
        deed(*given)
    except TreeError as error:
        return error
    return None


def spread(many):
    """So many rising keys, ten apart from one another."""
    return [10 * at for at in range(1, many + 1)]


def leaf_of(keys):
    """A Leaf of these keys, the good of each ten thousand above it."""
    return Leaf(keys, [key + 10000 for key in keys])


def inner_of(keys, first):
    """An Inner of these keys, with places that rise from the first one on."""
    return Inner(keys, list(range(first, first + len(keys) + 1)))


class Checks:
    """Checks for test cases to have beside those of unittest."""

    def check_refused(self, kind, field, thing, deed, *given):
        """That the deed refuses with just this class, and the field holds the very thing."""
        error = refusal(deed, *given)
        self.assertIs(type(error), kind)
        self.assertEqual(vars(error), {field: thing})
        self.assertIs(getattr(error, field), thing)

    def check_counted(self, kind, count, deed, *given):
        """That the deed refuses with just this class of a count."""
        error = refusal(deed, *given)
        self.assertIs(type(error), kind)
        self.assertEqual(vars(error), {"count": count})
        self.assertIs(type(error.count), int)

    def check_page(self, page, kind, keys, goods):
        """That the page is of this kind and tells these keys and goods, in lists."""
        self.assertIs(type(page), kind)
        self.assertEqual(page.all_keys(), keys)
        self.assertEqual(page.goods(), goods)
        self.assertIs(type(page.all_keys()), list)
        self.assertIs(type(page.goods()), list)
        self.assertEqual(page.many(), len(keys))
