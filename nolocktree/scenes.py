"""Scenes: a tree, the doers of calls on it, and their turns."""

from nolocktree.calls import Call
from nolocktree.doers import Doer
from nolocktree.errors import Ended, Going, NoCall, NoDoer, NoShape, NoWeaving, TooMany, Waits
from nolocktree.shapes import is_shaped
from nolocktree.trees import Tree, need_resting
from nolocktree.words import is_row, is_whole

MOST_CALLS = 60
GREATEST_TOP_LEVEL = 20


def need_scene_tree(thing):
    """Refuse what is no shaped tree, of a bounded height, with which nobody has to do."""
    need_resting(thing)
    if not is_shaped(thing) or thing.level_of(thing.top()) > GREATEST_TOP_LEVEL:
        raise NoShape(thing)


class Scene:
    """A tree of its own, and the doers that have begun calls on it."""

    def __init__(self, tree):
        need_scene_tree(tree)
        self.own_tree = tree.twin()
        self.doers = []
        self.steps_done = 0

    def begin(self, call):
        """Let a call begin; tell the number of its doer."""
        if not isinstance(call, Call):
            raise NoCall(call)
        number = len(self.doers)
        if number == MOST_CALLS:
            raise TooMany(number + 1)
        self.own_tree.enter(number)
        self.doers.append(Doer(number, call, self.steps_done))
        return number

    def doer_of(self, number):
        """The doer with this number."""
        if not is_whole(number, 0, len(self.doers) - 1):
            raise NoDoer(number)
        return self.doers[number]

    def now(self):
        """How many steps were done."""
        return self.steps_done

    def where(self, number):
        """The word and the place of the step that the doer does next."""
        return self.doer_of(number).stands_at()

    def waits(self, number):
        """The place at which the doer waits, or None."""
        return self.doer_of(number).waits_at(self.own_tree)

    def going(self):
        """The numbers of the doers that have not ended, rising."""
        return [doer.number for doer in self.doers if not doer.has_ended()]

    def ready(self):
        """The numbers of those of them that do not wait, rising."""
        return [number for number in self.going() if self.waits(number) is None]

    def turn(self, number):
        """Do the next step of the doer; tell where it stood ahead of it."""
        doer = self.doer_of(number)
        if doer.has_ended():
            raise Ended(number)
        place = self.waits(number)
        if place is not None:
            raise Waits(number, place)
        self.steps_done += 1
        # Another one takes the doer's place here: twins of this scene may have the doer, too, as it stood.
        self.doers[number] = doer.twin()
        self.doers[number].step(self.own_tree, self.steps_done)
        return doer.stands_at()

    def run(self, weaving):
        """Give each number of the weaving its turn; tell how many steps were done then."""
        if not is_row(weaving):
            raise NoWeaving(weaving)
        # Tried on a twin: a turn that is refused leaves this scene as it stood ahead of the whole weaving.
        trial = self.twin()
        for at, number in enumerate(weaving):
            try:
                trial.turn(number)
            except (NoDoer, Ended, Waits):
                raise NoWeaving(at) from None
        self.stand_as(trial)
        return self.steps_done

    def stand_as(self, other):
        """Take over all of another scene, which is not used any more."""
        self.own_tree = other.own_tree
        self.doers = other.doers
        self.steps_done = other.steps_done

    def history(self):
        """For each call that has ended: number, call, began, moment, ended, answer."""
        return [doer.history_row() for doer in self.doers if doer.has_ended()]

    def answer(self, number):
        """The answer of a call that has ended."""
        doer = self.doer_of(number)
        if not doer.has_ended():
            raise Going(number)
        return doer.answer()

    def tree(self):
        """A twin of the tree."""
        return self.own_tree.twin()

    def twin(self):
        """Another scene that stands as this one does."""
        # A scene is made only of a tree at rest; this one's may not be.
        other = Scene(Tree(self.own_tree.most()))
        other.own_tree = self.own_tree.twin()
        other.doers = list(self.doers)
        other.steps_done = self.steps_done
        return other

    def turns(self):
        """A number of steps within which all calls have ended, whoever has which turn."""
        words = [doer.call.told()[0] for doer in self.doers if not doer.has_ended()]
        calls = len(words)
        puts = words.count("put")
        height = self.own_tree.level_of(self.own_tree.top()) + puts + 1
        deeds = height * puts + words.count("take") + 3 * words.count("join") + words.count("sink")
        places = self.own_tree.many_places() + puts * (height + 1)
        return calls * (height + 1 + 4 * (deeds + calls)) * (2 * (height + 2) * places + 13)
