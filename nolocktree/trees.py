"""Trees: nodes in numbered places, which deeds make, hold, write, free and let go."""

from nolocktree.errors import (
    Going, Held, NoDoer, NoEdge, NoLevel, NoMost, NoNumber, NoPage, NoPlace, NoShape, NoTree, NotHeld)
from nolocktree.pages import Inner, Leaf
from nolocktree.rounds import Rounds, rounds_of
from nolocktree.words import is_count, is_doer, is_key, is_level, is_most, is_place, is_row

MANY_TOLD = 5


def need_most(thing):
    """Refuse what is no most."""
    if not is_most(thing):
        raise NoMost(thing)


def need_level(thing):
    """Refuse what is no level."""
    if not is_level(thing):
        raise NoLevel(thing)


def need_page(level, thing):
    """Refuse what is no page of this level."""
    fitting = isinstance(thing, Leaf) if level == 0 else isinstance(thing, Inner)
    if not fitting:
        raise NoPage(thing)


def need_doer(thing):
    """Refuse what is no number of a doer."""
    if not is_doer(thing):
        raise NoDoer(thing)


class Node:
    """What stands in a place; its version is the tree's to keep, since it goes on behind the node.

    A node never changes: each deed puts another one into the place. So twins of a tree may share their nodes.
    """

    def __init__(self, level, bears, high, right):
        self.level = level
        self.bears = bears
        self.high = high
        self.right = right
        self.holder = None
        self.written = False

    def held_by(self, number, written):
        """The same node, held by this doer, and written since or not; by nobody where the number is None."""
        other = Node(self.level, self.bears, self.high, self.right)
        other.holder = number
        other.written = written
        return other


class Tree:
    """Nodes in places, and a top among them."""

    def __init__(self, most):
        need_most(most)
        self.most_keys = most
        self.own_rounds = Rounds()
        self.nodes = {}
        self.versions = {}
        self.top_place = self.made(0, Leaf([], []), None, None)

    def most(self):
        """How many keys a node of a shaped tree has at most."""
        return self.most_keys

    def top(self):
        """The place of the top."""
        return self.top_place

    def places(self):
        """The places in use, rising."""
        return self.own_rounds.used()

    def many_places(self):
        """How many places were ever given."""
        return self.own_rounds.many_places()

    def rounds(self):
        """A twin of the Rounds that gives the places."""
        return self.own_rounds.twin()

    def twin(self):
        """Another tree that stands as this one does."""
        other = Tree(self.most_keys)
        other.own_rounds = self.own_rounds.twin()
        other.nodes = dict(self.nodes)
        other.versions = dict(self.versions)
        other.top_place = self.top_place
        return other

    def node_in(self, place):
        """The node in the place, which must be in use or kept."""
        if not self.own_rounds.is_used(place) and not self.own_rounds.is_kept(place):
            raise NoPlace(place)
        return self.nodes[place]

    def node(self, place):
        """All that is told of the node: level, keys, goods, high, right, version, holder, gone."""
        node = self.node_in(place)
        keys = node.bears.all_keys()
        goods = node.bears.goods()
        gone = self.is_gone(place)
        return (node.level, keys, goods, node.high, node.right, self.versions[place], node.holder, gone)

    def page(self, place):
        """The node's page."""
        return self.node_in(place).bears

    def level_of(self, place):
        """The node's level."""
        return self.node_in(place).level

    def edge_of(self, place):
        """The node's high and right."""
        node = self.node_in(place)
        return (node.high, node.right)

    def version_of(self, place):
        """The version of the node in the place, or the one that it had at last."""
        return self.versions[place]

    def holder_of(self, place):
        """The number of the doer that holds the node, or None."""
        return self.node_in(place).holder

    def is_gone(self, place):
        """Whether the node in the place is gone."""
        return self.own_rounds.is_kept(place)

    def has_changed(self, place, version):
        """Whether the node that had this version in the place is gone, or has another version by now."""
        return self.is_gone(place) or self.versions[place] != version

    def need_used(self, place):
        """Refuse what is no place in use."""
        if not self.own_rounds.is_used(place):
            raise NoPlace(place)

    def need_edge(self, high, right):
        """Refuse what are not a key and a place in use, nor both None."""
        if high is None and right is None:
            return
        if not is_key(high) or not self.own_rounds.is_used(right):
            raise NoEdge(high, right)

    def held_node(self, place, number):
        """The node in the place, which is in use; this doer must hold it."""
        need_doer(number)
        node = self.nodes[place]
        if node.holder != number:
            raise NotHeld(place, number)
        return node

    def made(self, level, page, high, right):
        """The place of a new node."""
        need_level(level)
        need_page(level, page)
        self.need_edge(high, right)
        place = self.own_rounds.given()
        self.nodes[place] = Node(level, page, high, right)
        # A place that is given again goes on from its last version: no doer takes the new node for the old one.
        self.versions.setdefault(place, 0)
        return place

    def hold(self, place, number):
        """Let the doer hold the node."""
        self.need_used(place)
        need_doer(number)
        node = self.nodes[place]
        if node.holder is not None:
            raise Held(place, node.holder)
        self.nodes[place] = node.held_by(number, False)

    def write(self, place, number, page, high, right):
        """Give the held node this page, high and right."""
        self.need_used(place)
        node = self.held_node(place, number)
        need_page(node.level, page)
        self.need_edge(high, right)
        self.nodes[place] = Node(node.level, page, high, right).held_by(number, True)

    def free(self, place, number):
        """Let nobody hold the held node any more."""
        self.need_used(place)
        node = self.held_node(place, number)
        if node.written:
            self.versions[place] += 1
        self.nodes[place] = node.held_by(None, False)

    def go(self, place, number):
        """Let the held node go, and its place with it."""
        self.need_used(place)
        if place == self.top_place:
            raise NoPlace(place)
        node = self.held_node(place, number)
        self.nodes[place] = node.held_by(None, False)
        self.versions[place] += 1
        self.own_rounds.went(place)

    def lead(self, old, new):
        """Make the new place the top where the old one is it; tell whether it was."""
        self.need_used(old)
        self.need_used(new)
        if old != self.top_place:
            return False
        self.top_place = new
        return True

    def enter(self, number):
        """Let the call with this number go on from now on."""
        self.own_rounds.enter(number)

    def leave(self, number):
        """Let the call with this number go on no more."""
        self.own_rounds.leave(number)


def need_resting(thing):
    """Refuse what is no tree, or one with which somebody has to do: a node is held, or a call goes on."""
    if not isinstance(thing, Tree):
        raise NoTree(thing)
    for place in thing.places():
        holder = thing.holder_of(place)
        if holder is not None:
            raise Held(place, holder)
    going = thing.rounds().going()
    if going:
        number, lap = going[0]
        raise Going(number)


def need_told_node(thing):
    """Refuse what tells neither a node, its edge aside, nor the version of a free place."""
    if is_count(thing):
        return
    if not isinstance(thing, tuple) or len(thing) != MANY_TOLD:
        raise NoShape(thing)
    level, page, high, right, version = thing
    need_level(level)
    need_page(level, page)
    if not is_count(version):
        raise NoNumber(version)


def need_told_edge(high, right, told):
    """Refuse what are not a key and a place with a told node, nor both None."""
    if high is None and right is None:
        return
    if not is_key(high) or not is_place(right) or right not in told:
        raise NoEdge(high, right)


def need_told_nodes(nodes):
    """Refuse what does not tell, place by place, what stands there."""
    if not is_row(nodes) or len(nodes) == 0:
        raise NoShape(nodes)
    for thing in nodes:
        need_told_node(thing)
    told = told_nodes(nodes)
    for level, page, high, right, version in told.values():
        need_told_edge(high, right, told)


def told_nodes(nodes):
    """The told nodes by their places; what is no tuple tells of a free place."""
    return {place: thing for place, thing in enumerate(nodes) if isinstance(thing, tuple)}


def put_told(tree, lap, nodes):
    """Make the tree stand as told, whatever stood in it."""
    told = told_nodes(nodes)
    unused = {place: version for place, version in enumerate(nodes) if place not in told}
    tree.own_rounds = rounds_of(lap, list(told), list(unused))
    tree.nodes = {}
    tree.versions = unused
    for place, (level, page, high, right, version) in told.items():
        tree.nodes[place] = Node(level, page, high, right)
        tree.versions[place] = version


def tree_of(most, top, lap, nodes):
    """A tree that stands as told, in which nothing is held or kept, and no call goes on."""
    need_most(most)
    need_told_nodes(nodes)
    if not is_place(top) or top not in told_nodes(nodes):
        raise NoPlace(top)
    if not is_count(lap):
        raise NoNumber(lap)
    tree = Tree(most)
    put_told(tree, lap, nodes)
    tree.top_place = top
    return tree
