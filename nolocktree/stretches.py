"""Reading all pairs of a stretch: in parts, each of its own moment, or whole, of one moment."""

from nolocktree.calls import Call
from nolocktree.errors import NoSpan
from nolocktree.pages import need_key


def need_span(low, high):
    """Refuse what are not a low key and a high one above it, or None as the high one."""
    need_key(low)
    if high is None:
        return
    need_key(high)
    if high <= low:
        raise NoSpan(low, high)


class Stretch(Call):
    """What both kinds of stretches do alike: they read leaf by leaf, from the left, and hold nothing."""

    def __init__(self, word, low, high):
        need_span(low, high)
        Call.__init__(self, (word, low, high))

    def put_part(self, doer, now):
        """Put the part that was read to the others; seek the next one, or tell that it was the last one."""
        high = self.told_row[2]
        node_high, right = doer.seen_edge
        end = min([one for one in (high, node_high) if one is not None], default=None)
        pairs = tuple(doer.seen_page.part(doer.key, end))
        doer.parts += ((now, doer.key, end, pairs),)
        if end == high:
            return True
        doer.seek(end, 0)
        doer.stand("look", right)
        return False


class Parts(Stretch):
    """A call that tells a stretch in parts, one for each leaf, each with its own moment."""

    def __init__(self, low, high):
        Stretch.__init__(self, "parts", low, high)

    def there(self, doer, now):
        """Put the part, and end behind the last one."""
        if self.put_part(doer, now):
            doer.outcome = doer.parts
            doer.end(now)

    def answer_of(self, outcome):
        """The list of the parts: moment, from, end, and a list of pairs."""
        return [(moment, low, end, list(pairs)) for moment, low, end, pairs in outcome]


class Whole(Stretch):
    """A call that tells a stretch as it was at one moment: it begins again where a leaf has changed meanwhile."""

    def __init__(self, low, high):
        Stretch.__init__(self, "whole", low, high)

    def there(self, doer, now):
        """Note the leaf and put its part; behind the last one turn to checking what was noted."""
        doer.noted += ((doer.place, doer.seen_version),)
        if self.put_part(doer, now):
            doer.moment = now
            self.turn_to_check(doer)

    def turn_to_check(self, doer):
        """Stand at the check of the first place that is still to be checked."""
        place, version = doer.noted[0]
        doer.stand("check", place)

    def own_step(self, doer, tree, now):
        """Check a leaf: begin again where it is not as it was, else go on to the next one, or end."""
        place, version = doer.noted[0]
        if tree.has_changed(place, version):
            self.begin_again(doer)
            return
        # A leaf that somebody holds is still as it was: nothing of a write counts ahead of its free.
        doer.noted = doer.noted[1:]
        if doer.noted:
            self.turn_to_check(doer)
        else:
            doer.outcome = doer.parts
            doer.end(now)

    def begin_again(self, doer):
        """Drop all that was put and noted, and come from the top."""
        doer.parts = ()
        doer.noted = ()
        doer.seek(self.told_row[1], 0)
        doer.stand("top", None)

    def answer_of(self, outcome):
        """The list of the pairs of all parts, one behind the other."""
        return [pair for moment, low, end, pairs in outcome for pair in pairs]
