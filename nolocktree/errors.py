"""The refusals: one class for each, all straight under TreeError."""


class TreeError(ValueError):
    """Any refusal, made of a text."""


class NoKey(TreeError):
    """What was found is no key where one is asked for."""

    def __init__(self, found):
        TreeError.__init__(self, "this is no key")
        self.found = found


class NoGood(TreeError):
    """What was found is no good where one is asked for."""

    def __init__(self, found):
        TreeError.__init__(self, "this is no good")
        self.found = found


class NoPage(TreeError):
    """What was found is no page, or nothing that a page is made of."""

    def __init__(self, found):
        TreeError.__init__(self, "this is no page, or makes none")
        self.found = found


class NoPlace(TreeError):
    """What was found is no place that may be used here."""

    def __init__(self, found):
        TreeError.__init__(self, "this is no place that may be used here")
        self.found = found


class NoMost(TreeError):
    """What was found is no most of keys that a tree may have."""

    def __init__(self, found):
        TreeError.__init__(self, "this is no most")
        self.found = found


class NoLevel(TreeError):
    """What was found is no level of a node."""

    def __init__(self, found):
        TreeError.__init__(self, "this is no level")
        self.found = found


class NoDoer(TreeError):
    """What was found is no number of a doer that may be used here."""

    def __init__(self, found):
        TreeError.__init__(self, "this is no number of such a doer")
        self.found = found


class NoTree(TreeError):
    """What was found is no tree."""

    def __init__(self, found):
        TreeError.__init__(self, "this is no tree")
        self.found = found


class NoCall(TreeError):
    """What was found is no call, or no history of calls."""

    def __init__(self, found):
        TreeError.__init__(self, "this is no call, or no history of calls")
        self.found = found


class NoText(TreeError):
    """What was found is no text that can be read."""

    def __init__(self, found):
        TreeError.__init__(self, "this is no text that can be read")
        self.found = found


class NoLine(TreeError):
    """What was found is no line that a desk knows."""

    def __init__(self, found):
        TreeError.__init__(self, "this is no line that a desk knows")
        self.found = found


class NoNumber(TreeError):
    """What was found is no number within its bounds."""

    def __init__(self, found):
        TreeError.__init__(self, "this is no number within its bounds")
        self.found = found


class Lacks(TreeError):
    """The key is not there and should be."""

    def __init__(self, key):
        TreeError.__init__(self, "the key is not there")
        self.key = key


class Has(TreeError):
    """The key is there already and should not be."""

    def __init__(self, key):
        TreeError.__init__(self, "the key is there already")
        self.key = key


class NoJoin(TreeError):
    """The key does not stand between the two pages that are to be joined by it."""

    def __init__(self, key):
        TreeError.__init__(self, "the key does not stand between the pages")
        self.key = key


class TooMany(TreeError):
    """There are, or would be, so many: too many."""

    def __init__(self, count):
        TreeError.__init__(self, "there are too many")
        self.count = count


class TooFew(TreeError):
    """There are so many: too few."""

    def __init__(self, count):
        TreeError.__init__(self, "there are too few")
        self.count = count


class NoSpan(TreeError):
    """The high end of a stretch is not above its low one."""

    def __init__(self, low, high):
        TreeError.__init__(self, "the high key is not above the low one")
        self.low = low
        self.high = high


class NoEdge(TreeError):
    """The two are not a key and a place in use, nor both None."""

    def __init__(self, high, right):
        TreeError.__init__(self, "these are no high and right of a node")
        self.high = high
        self.right = right


class Held(TreeError):
    """The node in the place is held."""

    def __init__(self, place, holder):
        TreeError.__init__(self, "the node is held")
        self.place = place
        self.holder = holder


class NotHeld(TreeError):
    """The node in the place is not held by this doer."""

    def __init__(self, place, doer):
        TreeError.__init__(self, "the node is not held by this doer")
        self.place = place
        self.doer = doer


class Gone(TreeError):
    """The node in the place is gone."""

    def __init__(self, place):
        TreeError.__init__(self, "the node is gone")
        self.place = place


class Twice(TreeError):
    """What was found is there already and may be there but once."""

    def __init__(self, found):
        TreeError.__init__(self, "this may be there but once")
        self.found = found


class Ended(TreeError):
    """The call of this doer has ended."""

    def __init__(self, doer):
        TreeError.__init__(self, "the call has ended")
        self.doer = doer


class Going(TreeError):
    """The call of this doer has not ended."""

    def __init__(self, doer):
        TreeError.__init__(self, "the call has not ended")
        self.doer = doer


class Waits(TreeError):
    """The doer waits at the place."""

    def __init__(self, doer, place):
        TreeError.__init__(self, "the doer waits")
        self.doer = doer
        self.place = place


class NoWeaving(TreeError):
    """What was found is no weaving; or the place of its first turn that fails."""

    def __init__(self, found):
        TreeError.__init__(self, "this is no weaving, or a turn of it fails")
        self.found = found


class BadLine(TreeError):
    """The row with this number is not as it should be."""

    def __init__(self, row):
        TreeError.__init__(self, "a row is not as it should be")
        self.row = row


class NoShape(TreeError):
    """What was found has not the shape that a tree must have."""

    def __init__(self, found):
        TreeError.__init__(self, "this has not the shape of a tree")
        self.found = found
