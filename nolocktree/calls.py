"""Calls: what a doer is asked to do."""


class Call:
    """A call of one kind or another; each kind is a class of its own under this one. A call never changes."""

    def __init__(self, told_row):
        self.told_row = told_row

    def told(self):
        """The call's word, and behind it what the call was made of."""
        return self.told_row
