"""Places that are given, kept and given again, and the calls that may still look at them."""

from nolocktree.errors import NoDoer, NoPlace, Twice
from nolocktree.words import is_doer, is_place


class Rounds:
    """Gives places, and keeps those that went until no call can look at them any more."""

    def __init__(self):
        # Each place that was ever given stands in just one of the first three dicts.
        self.in_use = {}
        self.kept_laps = {}
        self.free_ones = {}
        self.call_laps = {}
        self.lap_now = 0

    def given(self):
        """A place that is in use from now on."""
        place = self.many_places()
        if self.free_ones:
            place = min(self.free_ones)
            self.free_ones.pop(place)
        self.in_use[place] = True
        return place

    def went(self, place):
        """Keep the place, which is in use, until the calls that go on now have left."""
        if not self.is_used(place):
            raise NoPlace(place)
        self.in_use.pop(place)
        self.kept_laps[place] = self.lap_now
        self.lap_now += 1
        self.release()

    def enter(self, number):
        """Let the call with this number go on from now on."""
        if not is_doer(number):
            raise NoDoer(number)
        if number in self.call_laps:
            raise Twice(number)
        self.call_laps[number] = self.lap_now

    def leave(self, number):
        """Let the call with this number go on no more."""
        if not is_doer(number) or number not in self.call_laps:
            raise NoDoer(number)
        self.call_laps.pop(number)
        self.release()

    def release(self):
        """Free each kept place that went ahead of all calls that go on."""
        past = [place for place, lap in self.kept_laps.items() if self.is_past(lap)]
        for place in past:
            self.kept_laps.pop(place)
            self.free_ones[place] = True

    def is_past(self, lap):
        """Whether each call that goes on has a greater lap."""
        return all([one > lap for one in self.call_laps.values()])

    def kept_for(self, place):
        """The numbers of the calls because of which the place is kept, rising, in a tuple."""
        return tuple(sorted([number for number, lap in self.call_laps.items() if lap <= self.kept_laps[place]]))

    def is_used(self, thing):
        """Whether the thing, whatever it is, is a place in use."""
        return is_place(thing) and thing in self.in_use

    def is_kept(self, thing):
        """Whether the thing, whatever it is, is a kept place."""
        return is_place(thing) and thing in self.kept_laps

    def many_places(self):
        """How many places were ever given, which is the least one that was not."""
        return len(self.in_use) + len(self.kept_laps) + len(self.free_ones)

    def lap(self):
        """How many places have gone, counted on from the first lap."""
        return self.lap_now

    def used(self):
        """The places in use, rising."""
        return sorted(self.in_use)

    def kept(self):
        """The kept places with their laps, in the order in which they went."""
        return list(self.kept_laps.items())

    def free(self):
        """The free places, rising."""
        return sorted(self.free_ones)

    def going(self):
        """The calls that go on with their laps, in the order in which they entered."""
        return list(self.call_laps.items())

    def twin(self):
        """Another Rounds that stands as this one does."""
        other = Rounds()
        other.in_use = dict(self.in_use)
        other.kept_laps = dict(self.kept_laps)
        other.free_ones = dict(self.free_ones)
        other.call_laps = dict(self.call_laps)
        other.lap_now = self.lap_now
        return other


def rounds_of(lap, used, unused):
    """A Rounds with this lap, in which places are in use or free as told, and no call goes on."""
    rounds = Rounds()
    rounds.in_use = {place: True for place in used}
    rounds.free_ones = {place: True for place in unused}
    rounds.lap_now = lap
    return rounds
