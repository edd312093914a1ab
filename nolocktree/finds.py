"""Finding the good with a key."""

from nolocktree.calls import Call
from nolocktree.pages import need_key


class Find(Call):
    """A call that tells the good with a key, or None, and holds nothing."""

    def __init__(self, key):
        need_key(key)
        Call.__init__(self, ("find", key))

    def there(self, doer, now):
        """End with what the leaf tells of the key."""
        doer.end_with(doer.seen_page.good(doer.key), now)
