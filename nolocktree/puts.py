"""Putting a key with its good into a tree, parting full nodes, and telling the nodes above."""

from nolocktree.calls import Call
from nolocktree.errors import NoGood
from nolocktree.pages import Inner, need_key
from nolocktree.words import is_good


class Put(Call):
    """A call that gives a key its good, and tells the good that was there, or None."""

    def __init__(self, key, good):
        need_key(key)
        if not is_good(good):
            raise NoGood(good)
        Call.__init__(self, ("put", key, good))

    def there(self, doer, now):
        """Turn to holding the node."""
        if doer.level == 0:
            doer.outcome = doer.seen_page.good(doer.key)
        doer.stand("hold", doer.place)

    def too_low(self, doer, now):
        """There is no node of the level of the post yet: turn to growing the tree."""
        doer.stand("grow", doer.place)

    def own_step(self, doer, tree, now):
        """Hold, part, write or free the node, or grow the tree."""
        if doer.word == "hold":
            self.hold_step(doer, tree)
        elif doer.word == "make":
            self.make_step(doer, tree)
        elif doer.word == "write":
            self.write_step(doer, tree)
        elif doer.word == "free":
            self.free_step(doer, tree, now)
        else:
            self.grow_step(doer, tree, now)

    def page_with(self, doer):
        """The page that was read, with the key and what comes with it put in."""
        if doer.level == 0:
            word, key, good = self.told_row
            return doer.seen_page.with_good(key, good)
        key, place = doer.posted
        return doer.seen_page.with_child(key, place)

    def hold_step(self, doer, tree):
        """Hold the node, and see whether it is to be parted."""
        if doer.takes_hold(tree):
            word = "make" if self.page_with(doer).many() > tree.most() else "write"
            doer.stand(word, doer.place)

    def make_step(self, doer, tree):
        """Make a node of the right part, which is to be posted."""
        left_part, key, right_part = self.page_with(doer).parted()
        high, right = tree.edge_of(doer.place)
        doer.to_post = (key, tree.made(doer.level, right_part, high, right))
        doer.stand("write", doer.place)

    def write_step(self, doer, tree):
        """Write the page with the key; where it was parted, its left part, which the new node follows."""
        page = self.page_with(doer)
        if doer.to_post is None:
            doer.write_page(tree, page)
        else:
            left_part, key, right_part = page.parted()
            doer.write_down(tree, left_part, key, doer.to_post[1])
        doer.stand("free", doer.place)

    def free_step(self, doer, tree, now):
        """Free the node; end, or post the new node where there is one."""
        tree.free(doer.place, doer.number)
        if doer.level == 0:
            doer.moment = now
        if doer.to_post is None:
            doer.end(now)
        else:
            self.post(doer)

    def post(self, doer):
        """Walk anew, to tell the level above of the new node."""
        key, place = doer.to_post
        doer.posted = (key, place)
        doer.to_post = None
        doer.seek(key, doer.level + 1)
        doer.stand("top", None)

    def grow_step(self, doer, tree, now):
        """Set a new top above the place, if that is the top still; else walk anew."""
        if doer.place != tree.top():
            doer.stand("top", None)
            return
        key, place = doer.posted
        top = tree.made(doer.level, Inner([key], [doer.place, place]), None, None)
        tree.lead(doer.place, top)
        doer.end(now)
