"""Joining two neighbours beneath an inner node, and lowering the top."""

from nolocktree.calls import Call
from nolocktree.pages import need_key
from nolocktree.trees import need_level


def are_to_join(tree, left, right):
    """Whether the right one follows the left one, and both fit into one node."""
    high, follower = tree.edge_of(left)
    return follower == right and tree.page(left).fits(tree.page(right), tree.most())


class Join(Call):
    """A call that joins the node of a level in which a key belongs with its neighbour; it tells whether it did."""

    def __init__(self, key, level):
        need_key(key)
        need_level(level)
        Call.__init__(self, ("join", key, level))

    def first_sought(self):
        """The key, and the level above that of the two that are joined."""
        word, key, level = self.told_row
        return (key, level + 1)

    def too_low(self, doer, now):
        """There is no node above such two: end."""
        doer.end_with(False, now)

    def there(self, doer, now):
        """End where there is no place beyond, else turn to holding the inner node."""
        if doer.seen_page.beyond(doer.key) is None:
            doer.end_with(False, now)
        else:
            doer.stand("hold", doer.place)

    def own_step(self, doer, tree, now):
        """Hold the three nodes, one behind the other; then the steps that were settled when the last one was held."""
        if doer.joining is None:
            self.hold_inner(doer, tree)
        elif doer.word == "hold":
            self.hold_beneath(doer, tree)
        else:
            self.settled_step(doer, tree)
            self.go_on(doer, now)

    def hold_inner(self, doer, tree):
        """Hold the inner node, and turn to holding the left one."""
        if doer.takes_hold(tree):
            left = doer.seen_page.child(doer.key)
            doer.joining = (doer.place, left, doer.seen_page.beyond(doer.key))
            doer.stand("hold", left)

    def hold_beneath(self, doer, tree):
        """Hold the left one or the right one; behind the right one see whether both are to be joined."""
        inner, left, right = doer.joining
        tree.hold(doer.place, doer.number)
        if doer.place == left:
            doer.stand("hold", right)
            return
        doer.outcome = are_to_join(tree, left, right)
        if doer.outcome:
            doer.stand("write", left)
            doer.steps_ahead = (("write", inner), ("go", right), ("free", left), ("free", inner))
        else:
            doer.stand("free", right)
            doer.steps_ahead = (("free", left), ("free", inner))

    def settled_step(self, doer, tree):
        """Write, free or let go the node at which the doer stands."""
        if doer.word == "write":
            self.write_step(doer, tree)
        elif doer.word == "go":
            tree.go(doer.place, doer.number)
        else:
            tree.free(doer.place, doer.number)

    def write_step(self, doer, tree):
        """Write both pages into the left one, or the inner node without the right one."""
        inner, left, right = doer.joining
        separator = doer.seen_page.separator(doer.key)
        if doer.place == inner:
            doer.write_page(tree, doer.seen_page.without_child(separator))
        else:
            high, follower = tree.edge_of(right)
            doer.write_down(tree, tree.page(left).joined(separator, tree.page(right)), high, follower)

    def go_on(self, doer, now):
        """Stand at the next one of the settled steps; behind the last one, end."""
        if doer.steps_ahead == ():
            doer.end_with(doer.outcome, now)
            return
        word, place = doer.steps_ahead[0]
        doer.stand(word, place)
        doer.steps_ahead = doer.steps_ahead[1:]


class Sink(Call):
    """A call that leads the top to its only child and lets the old top go; it tells whether it did."""

    def __init__(self):
        Call.__init__(self, ("sink",))

    def first_sought(self):
        """No key, since only the top is read; a node above the leaves."""
        return (None, 1)

    def too_low(self, doer, now):
        """The top is a leaf: end."""
        doer.end_with(False, now)

    def there(self, doer, now):
        """End where the node has a key or a right, else turn to holding it."""
        if doer.seen_page.many() > 0 or doer.seen_edge != (None, None):
            doer.end_with(False, now)
        else:
            doer.stand("hold", doer.place)

    def own_step(self, doer, tree, now):
        """Hold the node, or let it go."""
        if doer.word == "hold":
            self.hold_step(doer, tree)
        else:
            self.go_step(doer, tree, now)

    def hold_step(self, doer, tree):
        """Hold the node if it is still the one that was read; else walk anew."""
        if doer.is_stale(tree):
            doer.stand("top", None)
            return
        tree.hold(doer.place, doer.number)
        doer.stand("go", doer.place)

    def go_step(self, doer, tree, now):
        """Lead the top to the only child and let the node go, if it is the top still; else free it."""
        only_child = doer.seen_page.goods()[0]
        was_top = tree.lead(doer.place, only_child)
        if was_top:
            tree.go(doer.place, doer.number)
        else:
            tree.free(doer.place, doer.number)
        doer.end_with(was_top, now)
