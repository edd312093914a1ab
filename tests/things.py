"""Things to hand in, and a look at refusals, for all tests."""

from nolocktree.errors import NoDoer, NoKey, TreeError
from nolocktree.finds import Find
from nolocktree.joins import Join, Sink
from nolocktree.pages import Inner, Leaf
from nolocktree.plain import Plain
from nolocktree.rounds import Rounds
from nolocktree.scenes import Scene
from nolocktree.stretches import Parts, Whole
from nolocktree.trees import Tree, tree_of

LEAST = -999999999
GREATEST = 999999999


def deep(depth):
    """Lists within one another, so many of them."""
    thing = []
    for turn in range(depth - 1):
        thing = [thing]
    return thing


def odd_things():
    """Things that are no whole numbers, no lists and no tuples, new ones each time."""
    return [
        None, True, False, "", "1", "key", "~ \n", {}, {1: 2}, {"a": [1, (2, {})]},
        Leaf([], []), Leaf([1], [2]), Inner([], [0]), NoKey(5), TreeError("words"), Rounds(), Tree(3),
        Find(1), Scene(Tree(2)), Join(1, 0), Sink(), Parts(1, 2), Whole(1, None), Plain([(1, 2)]),
    ]


def no_numbers():
    """Things that are no whole numbers, rows among them, new ones each time."""
    return odd_things() + [[], [1], (), (1,), [[1]], deep(8), ({},), [None], (True,)]


def no_keys():
    """Things that are no keys, nor goods, new ones each time."""
    return no_numbers() + [LEAST - 1, GREATEST + 1, 10 ** 29, 10 ** 30 - 1, 1 - 10 ** 30]


def no_pages():
    """Things that are no pages of either kind, new ones each time."""
    plain = [thing for thing in no_keys() if not isinstance(thing, (Leaf, Inner))]
    return plain + [0, 5, ([1], [2])]


def no_doers():
    """Things that are no numbers of doers, nor laps, new ones each time."""
    return no_numbers() + [-1, 10 ** 6 + 1, 10 ** 29, -10 ** 29]


def refusal(deed, *given):
    """The error with which the deed refuses what it is given; None where it does not refuse."""
    try:
        deed(*given)
    except TreeError as error:
        return error
    return None


def spread(many):
    """So many rising keys, ten apart from one another."""
    return [10 * at for at in range(1, many + 1)]


def leaf_of(keys):
    """A Leaf of these keys, the good of each ten thousand above it."""
    return Leaf(keys, [key + 10000 for key in keys])


def inner_of(keys, first):
    """An Inner of these keys, with places that rise from the first one on."""
    return Inner(keys, list(range(first, first + len(keys) + 1)))


def told_rounds(rounds):
    """All that a Rounds tells."""
    return (rounds.lap(), rounds.used(), rounds.kept(), rounds.free(), rounds.going())


def told_tree(tree):
    """All that a tree tells."""
    rounds = tree.rounds()
    places = tree.places() + [place for place, lap in rounds.kept()]
    nodes = {place: tree.node(place) for place in places}
    kinds = {place: type(tree.page(place)) for place in places}
    return (tree.most(), tree.top(), tree.places(), told_rounds(rounds), nodes, kinds)


def one_leaf(keys, most):
    """A tree of one leaf with these keys."""
    return tree_of(most, 0, 0, [(0, leaf_of(keys), None, None, 0)])


def even_tree(levels, most=3):
    """A shaped tree of so many levels: each inner node has two children, each leaf two keys; leaves come first."""
    many = 2 ** (levels - 1)
    nodes, lows, first = [], [10 * at for at in range(many)], 0
    for level in range(levels):
        rights = [len(nodes) + at + 1 for at in range(many - 1)] + [None]
        highs = lows[1:] + [None]
        for at in range(many):
            page = leaf_of([lows[at], lows[at] + 5])
            if level > 0:
                page = Inner([child_lows[2 * at + 1]], [first + 2 * at, first + 2 * at + 1])
            nodes.append((level, page, highs[at], rights[at], 0))
        child_lows, lows, first, many = lows, lows[::2], len(nodes) - many, many // 2
    return tree_of(most, len(nodes) - 1, 0, nodes)


def tall_tree(most=3):
    """A shaped tree of three levels, with an unposted leaf in place 4 and an unposted inner node in place 6."""
    return tree_of(most, 7, 0, [
        (0, Leaf([1, 5], [11, 15]), 10, 1, 0),
        (0, Leaf([10], [20]), 20, 2, 1),
        (0, Leaf([], []), 30, 4, 2),
        (0, Leaf([40, 49], [50, 59]), 50, 8, 0),
        (0, Leaf([30], [40]), 40, 3, 0),
        (1, Inner([10, 20], [0, 1, 2]), 40, 6, 3),
        (1, Inner([50], [3, 8]), 60, 9, 0),
        (2, Inner([60], [5, 9]), None, None, 0),
        (0, Leaf([50], [60]), 60, 10, 0),
        (1, Inner([], [10]), None, None, 0),
        (0, Leaf([60, 99], [70, 109]), None, None, 5),
    ])


def scene_of(tree, *calls):
    """A scene of the tree in which these calls have begun."""
    scene = Scene(tree)
    for call in calls:
        scene.begin(call)
    return scene


def walk_by(*places):
    """The steps of a walk from the top by these places: a look and a read of each."""
    return [("top", None)] + [(word, place) for place in places for word in ("look", "read")]


def at_place(place, *words):
    """The steps with these words at this place."""
    return [(word, place) for word in words]


def turns_of(scene, number, many=None):
    """Where the doer stood ahead of each of its turns: so many turns, or all up to its end."""
    told = []
    while len(told) != many and scene.where(number) != ("ended", None):
        told.append(scene.turn(number))
    return told


def go_to(scene, number, word):
    """Give the doer turns until it stands at a step with this word."""
    while scene.where(number)[0] != word:
        scene.turn(number)


def run_calls(scene, *calls):
    """Let these calls begin and end one behind the other; tell their answers."""
    numbers = []
    for call in calls:
        numbers.append(scene.begin(call))
        turns_of(scene, numbers[-1])
    return [scene.answer(number) for number in numbers]


def tower(level, most=2):
    """A shaped tree whose top is of this level, one node at each."""
    nodes = [(0, leaf_of([5]), None, None, 0)]
    nodes += [(at, Inner([], [at - 1]), None, None, 0) for at in range(1, level + 1)]
    return tree_of(most, level, 0, nodes)


def join_unposted(scene):
    """Join the unposted leaf of a scene of the tall tree to its left neighbour, behind the backs of its doers."""
    tree = scene.own_tree
    for place in (2, 4):
        tree.hold(place, 9)
    tree.write(2, 9, leaf_of([30]), 40, 3)
    tree.go(4, 9)
    tree.free(2, 9)


def told_scene(scene):
    """All that a scene tells."""
    numbers = [number for number in range(60) if not isinstance(refusal(scene.where, number), NoDoer)]
    doers = [(scene.where(number), scene.waits(number)) for number in numbers]
    lists = (scene.going(), scene.ready(), scene.history())
    return (scene.now(), doers, lists, scene.turns(), told_tree(scene.tree()))


class Checks:
    """Checks for test cases to have beside those of unittest."""

    def check_refused(self, kind, field, thing, deed, *given):
        """That the deed refuses with just this class, and the field holds the very thing."""
        error = refusal(deed, *given)
        self.assertIs(type(error), kind)
        self.assertEqual(vars(error), {field: thing})
        self.assertIs(getattr(error, field), thing)

    def check_fields(self, kind, fields, deed, *given):
        """That the deed refuses with just this class, and each field holds the very thing."""
        error = refusal(deed, *given)
        self.assertIs(type(error), kind)
        self.assertEqual(list(vars(error)), list(fields))
        for field, thing in fields.items():
            self.assertIs(getattr(error, field), thing)

    def check_counted(self, kind, count, deed, *given):
        """That the deed refuses with just this class of a count."""
        error = refusal(deed, *given)
        self.assertIs(type(error), kind)
        self.assertEqual(vars(error), {"count": count})
        self.assertIs(type(error.count), int)

    def check_own_ways(self, make, tell, deeds, last):
        """That of an object and its twin each is changed by its own deeds alone, and both by the same alike."""
        for deed in deeds:
            thing = make()
            twin = thing.twin()
            before = tell(thing)
            deed(twin)
            self.assertEqual(tell(thing), before)
            behind = tell(twin)
            self.assertNotEqual(behind, before)
            deed(thing)
            self.assertEqual(tell(thing), behind)
            last(thing)
            self.assertEqual(tell(twin), behind)

    def check_page(self, page, kind, keys, goods):
        """That the page is of this kind and tells these keys and goods, in lists."""
        self.assertIs(type(page), kind)
        self.assertEqual(page.all_keys(), keys)
        self.assertEqual(page.goods(), goods)
        self.assertIs(type(page.all_keys()), list)
        self.assertIs(type(page.goods()), list)
        self.assertEqual(page.many(), len(keys))
