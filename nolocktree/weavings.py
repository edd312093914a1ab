"""The whole weavings of a small scene: how many there are, and which one has which number."""

from nolocktree.errors import NoNumber, NoWeaving, TooMany
from nolocktree.words import is_whole

MOST_GOING = 3
MOST_PLACES = 8


def need_small(scene):
    """Refuse a scene with too many calls that go on, or too many places in use."""
    going = len(scene.going())
    if going > MOST_GOING:
        raise TooMany(going)
    places = len(scene.tree().places())
    if places > MOST_PLACES:
        raise TooMany(places)


def node_key(tree, place):
    """What steps to come hang on of a node in use; which goods a leaf has changes none of them."""
    node = tree.nodes[place]
    children = node.bears.good_row if node.level > 0 else ()
    rows = (node.bears.key_row, children)
    return (place, tree.version_of(place), node.level, rows, node.high, node.right, node.holder, node.written)


def tree_key(tree):
    """What steps to come hang on of a tree; equal for trees that stand alike."""
    rounds = tree.own_rounds
    nodes = tuple([node_key(tree, place) for place in rounds.used()])
    kept = tuple([(place, rounds.kept_for(place)) for place in sorted(rounds.kept_laps)])
    return (tree.top(), nodes, kept, tuple(rounds.free()), tuple(sorted(rounds.call_laps)))


def is_noted(doer):
    """Whether the doer's next step hangs on the version that it has seen."""
    return doer.word in ("read", "hold") and doer.joining is None


def fresh_notes(doer, tree):
    """What is still to be checked, up to the first one that has changed since: behind that nothing is checked."""
    notes = []
    for place, version in doer.noted:
        if tree.has_changed(place, version):
            return tuple(notes + [(place, None)])
        notes.append((place, version))
    return tuple(notes)


def settled(doer, tree):
    """A doer that does the same steps, without the versions on which none of them hangs any more."""
    other = doer.twin()
    # What has changed once stays changed: which version was seen ahead of it is all one.
    if not is_noted(doer) or doer.is_stale(tree):
        other.seen_version = None
    other.noted = fresh_notes(doer, tree)
    return other


def doer_key(doer):
    """What steps to come hang on of a settled doer; equal for doers that stand alike."""
    page = None
    if doer.word in ("hold", "make", "write", "go", "free"):
        page = (doer.seen_page.key_row, doer.seen_page.good_row if doer.level > 0 else ())
    stands = (doer.number, doer.word, doer.place, doer.key, doer.level, doer.seen_version, page)
    return (stands, doer.to_post, doer.posted, doer.joining, doer.steps_ahead, doer.noted)


class Shelf:
    """Things by numbers from 0 on; of things that are alike, as their keys tell, the first one is kept."""

    def __init__(self):
        self.things = []
        self.number_by_key = {}

    def number_for(self, key, thing):
        """The number of the thing, which is put to the others where none is alike."""
        if key not in self.number_by_key:
            self.number_by_key[key] = len(self.things)
            self.things.append(thing)
        return self.number_by_key[key]


class Web:
    """All stands that a scene may come to: a stand is the number of a tree and those of the doers that go on.

    What a step makes of a tree and of its doer hangs on these two alone, so each such step is done but once.
    """

    def __init__(self, scene):
        self.tree_shelf = Shelf()
        self.doer_shelf = Shelf()
        self.step_by_pair = {}
        self.settled_by_pair = {}
        self.nexts_by_stand = {}
        self.count_by_stand = {}
        tree = scene.tree()
        doers = [doer for doer in scene.doers if not doer.has_ended()]
        self.start = (self.tree_number(tree), tuple([self.doer_number(settled(doer, tree)) for doer in doers]))

    def tree_number(self, tree):
        """The number of the tree."""
        return self.tree_shelf.number_for(tree_key(tree), tree)

    def doer_number(self, doer):
        """The number of the settled doer."""
        return self.doer_shelf.number_for(doer_key(doer), doer)

    def stepped(self, tree_at, doer_at):
        """The numbers of the tree and of the doer behind its next step, the last one None where it has ended."""
        pair = (tree_at, doer_at)
        if pair not in self.step_by_pair:
            tree = self.tree_shelf.things[tree_at].twin()
            doer = self.doer_shelf.things[doer_at].twin()
            # Which number a step has changes none of those to come.
            doer.step(tree, 0)
            behind = None if doer.has_ended() else self.doer_number(settled(doer, tree))
            self.step_by_pair[pair] = (self.tree_number(tree), behind)
        return self.step_by_pair[pair]

    def settled_number(self, tree_at, doer_at):
        """The number of the doer when the tree has become this one by the step of another doer."""
        pair = (tree_at, doer_at)
        if pair not in self.settled_by_pair:
            doer = settled(self.doer_shelf.things[doer_at], self.tree_shelf.things[tree_at])
            self.settled_by_pair[pair] = self.doer_number(doer)
        return self.settled_by_pair[pair]

    def next_stand(self, stand, at):
        """The stand behind a step of the doer at this place of the stand."""
        tree_at, doers = stand
        tree_behind, doer_behind = self.stepped(tree_at, doers[at])
        ahead = [self.settled_number(tree_behind, one) for one in doers[:at]]
        own = [] if doer_behind is None else [doer_behind]
        rest = [self.settled_number(tree_behind, one) for one in doers[at + 1:]]
        return (tree_behind, tuple(ahead + own + rest))

    def nexts(self, stand):
        """For each doer that is ready, by their numbers, its number and the stand behind its step."""
        if stand not in self.nexts_by_stand:
            tree_at, doers = stand
            tree = self.tree_shelf.things[tree_at]
            told = []
            for at, doer_at in enumerate(doers):
                doer = self.doer_shelf.things[doer_at]
                if doer.waits_at(tree) is None:
                    told.append((doer.number, self.next_stand(stand, at)))
            self.nexts_by_stand[stand] = told
        return self.nexts_by_stand[stand]

    def many_from(self, stand):
        """How many whole weavings there are from this stand on."""
        to_count = [stand]
        while to_count:
            last = to_count[-1]
            behind = [one for number, one in self.nexts(last)]
            missing = [one for one in behind if one not in self.count_by_stand]
            if missing:
                to_count += missing
            else:
                # Where nobody goes on there is one: the one without turns.
                self.count_by_stand[last] = sum([self.count_by_stand[one] for one in behind]) if behind else 1
                to_count.pop()
        return self.count_by_stand[stand]


def weavings(scene):
    """How many whole weavings there are from where the scene stands."""
    need_small(scene)
    web = Web(scene)
    return web.many_from(web.start)


def turn_with(web, stand, number):
    """The first turn of the weaving with this number from the stand on, the stand behind it, and the number there."""
    left = number
    for turn, behind in web.nexts(stand):
        many = web.many_from(behind)
        if left < many:
            return (turn, behind, left)
        left -= many
    return None


def weaving_at(scene, number):
    """The whole weaving with this number."""
    need_small(scene)
    web = Web(scene)
    if not is_whole(number, 0, web.many_from(web.start) - 1):
        raise NoNumber(number)
    weaving = []
    stand = web.start
    left = number
    while web.nexts(stand):
        turn, stand, left = turn_with(web, stand, left)
        weaving.append(turn)
    return weaving


def need_whole_weaving(scene, weaving):
    """Refuse what is no weaving of the scene, or one behind which some calls still go on."""
    trial = scene.twin()
    trial.run(weaving)
    if trial.going():
        raise NoWeaving(len(weaving))


def number_of(scene, weaving):
    """The number of this whole weaving."""
    need_small(scene)
    need_whole_weaving(scene, weaving)
    web = Web(scene)
    stand = web.start
    number = 0
    for turn in weaving:
        behind = dict(web.nexts(stand))
        # Those ahead in the order have a lesser number at this place.
        number += sum([web.many_from(behind[other]) for other in behind if other < turn])
        stand = behind[turn]
    return number
