"""Doers: who does a call, step by step."""


class Doer:
    """Where a doer stands, what it seeks, and what it has noted."""

    def __init__(self, number, call, began):
        self.number = number
        self.call = call
        self.began = began
        self.word = "top"
        self.place = None
        self.key, self.level = call.first_sought()
        self.seen_version = None
        self.seen_page = None
        self.seen_edge = (None, None)
        # Of a put: the key ahead of a new node and the node's place, which are to be posted, and those being posted.
        self.to_post = None
        self.posted = None
        # Of a join: the places of the inner node, the left one and the right one, and the steps behind the next one.
        self.joining = None
        self.steps_ahead = ()
        # Of a stretch: its parts so far, and the places and versions that are still to be checked.
        self.parts = ()
        self.noted = ()
        self.outcome = None
        self.moment = None
        self.ended = None

    def twin(self):
        """Another doer that stands as this one does."""
        # Numbers, words, pages, calls and tuples of these: nothing of it changes, so all of it may be shared.
        other = Doer(self.number, self.call, self.began)
        other.stand(self.word, self.place)
        other.seek(self.key, self.level)
        other.seen_version = self.seen_version
        other.seen_page = self.seen_page
        other.seen_edge = self.seen_edge
        other.to_post = self.to_post
        other.posted = self.posted
        other.joining = self.joining
        other.steps_ahead = self.steps_ahead
        other.parts = self.parts
        other.noted = self.noted
        other.outcome = self.outcome
        other.moment = self.moment
        other.ended = self.ended
        return other

    def stand(self, word, place):
        """Stand at the step with this word, at this place, from now on."""
        self.word = word
        self.place = place

    def seek(self, key, level):
        """Seek this key at this level from now on."""
        self.key = key
        self.level = level

    def end(self, now):
        """End with the step of this number."""
        self.ended = now
        self.stand("ended", None)

    def end_with(self, outcome, now):
        """End with the step of this number, which is the moment, too."""
        self.outcome = outcome
        self.moment = now
        self.end(now)

    def stands_at(self):
        """The word and the place of the step that comes next."""
        return (self.word, self.place)

    def has_ended(self):
        """Whether the call has ended."""
        return self.ended is not None

    def waits_at(self, tree):
        """The place of the node that another doer holds and this one is to look at or to hold; else None."""
        if self.word not in ("look", "hold"):
            return None
        holder = tree.holder_of(self.place)
        if holder is None or holder == self.number:
            return None
        return self.place

    def answer(self):
        """The answer of the call, which has ended; its lists are new ones each time."""
        return self.call.answer_of(self.outcome)

    def history_row(self):
        """What a history tells of the call, which has ended."""
        return (self.number, self.call.told(), self.began, self.moment, self.ended, self.answer())

    def step(self, tree, now):
        """Do the step that comes next; among those of the scene it has the number now."""
        if self.word == "top":
            self.stand("look", tree.top())
        elif self.word == "look":
            self.look(tree, now)
        elif self.word == "read":
            self.read(tree, now)
        else:
            self.call.own_step(self, tree, now)
        if self.has_ended():
            tree.leave(self.number)

    def look(self, tree, now):
        """Note the node's version, and turn to reading it."""
        if tree.is_gone(self.place):
            self.stand("top", None)
            return
        self.seen_version = tree.version_of(self.place)
        if tree.level_of(self.place) < self.level:
            self.call.too_low(self, now)
        else:
            self.stand("read", self.place)

    def read(self, tree, now):
        """Read the node, unless it changes or has changed, and go where it leads."""
        if tree.holder_of(self.place) is not None or self.is_stale(tree):
            self.stand("look", self.place)
            return
        # Nothing was written since the look, so the keys of that moment are those of the page as it is now.
        self.seen_page = tree.page(self.place)
        self.seen_edge = tree.edge_of(self.place)
        if self.is_beyond():
            self.stand("look", self.seen_edge[1])
        elif self.key is not None and tree.level_of(self.place) > self.level:
            self.stand("look", self.seen_page.child(self.key))
        else:
            self.call.there(self, now)

    def is_beyond(self):
        """Whether the key that is sought lies behind the stretch of the node that was read."""
        high = self.seen_edge[0]
        return self.key is not None and high is not None and self.key >= high

    def is_stale(self, tree):
        """Whether the node is no more the one that was looked at."""
        return tree.has_changed(self.place, self.seen_version)

    def takes_hold(self, tree):
        """Hold the node if it is still the one that was read, else look at it again; tell whether it is held."""
        if self.is_stale(tree):
            self.stand("look", self.place)
            return False
        tree.hold(self.place, self.number)
        return True

    def write_down(self, tree, page, high, right):
        """Write these into the held node at which the doer stands."""
        tree.write(self.place, self.number, page, high, right)

    def write_page(self, tree, page):
        """Write the page into the held node at which the doer stands, with the node's own high and right."""
        high, right = tree.edge_of(self.place)
        self.write_down(tree, page, high, right)
