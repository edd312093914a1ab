"""Calls: what a doer is asked to do."""


class Call:
    """A call of one kind or another; each kind is a class of its own under this one. A call never changes.

    What the kinds do unlike one another each tells by methods of these names: there, what comes when its doer is at
    the node that it seeks; own_step, its steps that are not those of a walk; and, where it seeks nodes above the
    leaves, too_low, what comes when a look finds a node of a lesser level.
    """

    def __init__(self, told_row):
        self.told_row = told_row

    def told(self):
        """The call's word, and behind it what the call was made of."""
        return self.told_row

    def first_sought(self):
        """The key and the level that the doer seeks at first; None as the key where it is there at any node."""
        return (self.told_row[1], 0)

    def answer_of(self, outcome):
        """The answer as it is told, of what the doer has kept as its outcome."""
        return outcome
