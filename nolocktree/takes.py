"""Taking a key out of a tree."""

from nolocktree.calls import Call
from nolocktree.pages import need_key


class Take(Call):
    """A call that takes a key and its good out of its leaf, and tells the good; it tells None where none is there."""

    def __init__(self, key):
        need_key(key)
        Call.__init__(self, ("take", key))

    def there(self, doer, now):
        """End where the leaf lacks the key, else turn to holding it."""
        doer.outcome = doer.seen_page.good(doer.key)
        if doer.outcome is None:
            doer.end_with(None, now)
        else:
            doer.stand("hold", doer.place)

    def own_step(self, doer, tree, now):
        """Hold, write or free the leaf."""
        if doer.word == "hold":
            if doer.takes_hold(tree):
                doer.stand("write", doer.place)
        elif doer.word == "write":
            doer.write_page(tree, doer.seen_page.without(doer.key))
            doer.stand("free", doer.place)
        else:
            tree.free(doer.place, doer.number)
            doer.end_with(doer.outcome, now)
