"""Pages: what the nodes of a tree bear. A page never changes; what would change it tells another one."""

from nolocktree.errors import Has, Lacks, NoGood, NoJoin, NoKey, NoMost, NoPage, NoPlace, TooFew, TooMany
from nolocktree.words import in_stretch, is_good, is_key, is_most, is_place, is_rising, is_row

MOST_KEYS = 6
LEAST_PARTED_LEAF = 2
LEAST_PARTED_INNER = 3


def need_key(thing):
    """Refuse what is no key."""
    if not is_key(thing):
        raise NoKey(thing)


def are_page_keys(thing):
    """Whether the thing may be the keys of a page."""
    return is_rising(thing) and len(thing) <= MOST_KEYS


def are_goods(thing, many):
    """Whether the thing is a list or a tuple of so many goods."""
    return is_row(thing) and len(thing) == many and all([is_good(one) for one in thing])


def are_places(thing, many):
    """Whether the thing is a list or a tuple of so many places, no two alike."""
    if not is_row(thing) or len(thing) != many:
        return False
    return all([is_place(one) for one in thing]) and len(set(thing)) == many


def stands_between(left_keys, key, right_keys):
    """Whether all left keys are below the key, and no right key is."""
    return all([one < key for one in left_keys]) and all([key <= one for one in right_keys])


def put_in(row, at, thing):
    """The tuple with the thing put in ahead of the place at."""
    return row[:at] + (thing,) + row[at:]


def left_out(row, at):
    """The tuple without what stands at the place at."""
    return row[:at] + row[at + 1:]


class Page:
    """Keys with goods, of one of two kinds: Leaf and Inner; nothing else is a page.

    What the kinds do unlike one another each tells by methods of these names: is_kin, least_parted, halves,
    many_with, may_join and put_together.
    """

    def __init__(self, keys, goods):
        # Tuples: no list that is handed in or told can reach into the page.
        self.key_row = tuple(keys)
        self.good_row = tuple(goods)

    def all_keys(self):
        """The keys, rising."""
        return list(self.key_row)

    def goods(self):
        """The goods, or the places, from the left."""
        return list(self.good_row)

    def many(self):
        """How many keys there are."""
        return len(self.key_row)

    def same(self, thing):
        """Whether the thing is a page of this kind with the same keys and goods."""
        return self.is_kin(thing) and self.key_row == thing.key_row and self.good_row == thing.good_row

    def parted(self):
        """The left part, the key between, and the right part."""
        if self.many() < self.least_parted():
            raise TooFew(self.many())
        return self.halves()

    def fits(self, other, most):
        """Whether this page and the other one, to its right, make one of at most so many keys."""
        if not self.is_kin(other):
            raise NoPage(other)
        if not is_most(most):
            raise NoMost(most)
        return self.many_with(other) <= most

    def joined(self, key, other):
        """The page made of this one and the other one, to its right, with the key between them."""
        if not self.is_kin(other):
            raise NoPage(other)
        need_key(key)
        if not self.may_join(key, other):
            raise NoJoin(key)
        if self.many_with(other) > MOST_KEYS:
            raise TooMany(self.many_with(other))
        return self.put_together(key, other)


class Leaf(Page):
    """The page of a leaf: a good for each key."""

    def __init__(self, keys, goods):
        if not are_page_keys(keys):
            raise NoPage(keys)
        if not are_goods(goods, len(keys)):
            raise NoPage(goods)
        Page.__init__(self, keys, goods)

    def good(self, key):
        """The good with the key, or None."""
        need_key(key)
        if key not in self.key_row:
            return None
        return self.good_row[self.key_row.index(key)]

    def with_good(self, key, good):
        """The Leaf in which the key has this good."""
        need_key(key)
        if not is_good(good):
            raise NoGood(good)
        goods = dict(zip(self.key_row, self.good_row))
        goods[key] = good
        if len(goods) > MOST_KEYS:
            raise TooMany(len(goods))
        keys = sorted(goods)
        return Leaf(keys, [goods[one] for one in keys])

    def without(self, key):
        """The Leaf without the key and its good."""
        need_key(key)
        if key not in self.key_row:
            raise Lacks(key)
        at = self.key_row.index(key)
        return Leaf(left_out(self.key_row, at), left_out(self.good_row, at))

    def part(self, low, high):
        """The pairs in the stretch from low up to high; either may be None."""
        if low is not None:
            need_key(low)
        if high is not None:
            need_key(high)
        return [(key, good) for key, good in zip(self.key_row, self.good_row) if in_stretch(key, low, high)]

    def is_kin(self, thing):
        """Whether the thing is a Leaf."""
        return isinstance(thing, Leaf)

    def least_parted(self):
        """How many keys a Leaf must have to be parted."""
        return LEAST_PARTED_LEAF

    def halves(self):
        """Both parts and the key between, which the right part keeps."""
        at = (self.many() + 1) // 2
        left = Leaf(self.key_row[:at], self.good_row[:at])
        right = Leaf(self.key_row[at:], self.good_row[at:])
        return (left, self.key_row[at], right)

    def many_with(self, other):
        """How many keys this Leaf and the other one have together."""
        return self.many() + other.many()

    def may_join(self, key, other):
        """Whether the key may stand between this Leaf and the other one, perhaps as the first key of that."""
        return stands_between(self.key_row, key, other.key_row)

    def put_together(self, key, other):
        """The Leaf with the pairs of both; the key between is in it only where a Leaf has it."""
        return Leaf(self.key_row + other.key_row, self.good_row + other.good_row)


class Inner(Page):
    """The page of an inner node: one place more than keys."""

    def __init__(self, keys, goods):
        if not are_page_keys(keys):
            raise NoPage(keys)
        if not are_places(goods, len(keys) + 1):
            raise NoPage(goods)
        Page.__init__(self, keys, goods)

    def child_at(self, key):
        """Where, counted from 0, the child for the key stands among the places."""
        need_key(key)
        return len([one for one in self.key_row if one <= key])

    def child(self, key):
        """The place for the key."""
        return self.good_row[self.child_at(key)]

    def beyond(self, key):
        """The place right behind the child, or None."""
        at = self.child_at(key)
        if at == self.many():
            return None
        return self.good_row[at + 1]

    def separator(self, key):
        """The key between the child and the place beyond, or None."""
        at = self.child_at(key)
        if at == self.many():
            return None
        return self.key_row[at]

    def with_child(self, key, place):
        """The Inner with the key put in, and the place right behind it."""
        need_key(key)
        if not is_place(place) or place in self.good_row:
            raise NoPlace(place)
        if key in self.key_row:
            raise Has(key)
        if self.many() == MOST_KEYS:
            raise TooMany(MOST_KEYS + 1)
        at = self.child_at(key)
        return Inner(put_in(self.key_row, at, key), put_in(self.good_row, at + 1, place))

    def without_child(self, key):
        """The Inner without the key and the place right behind it."""
        need_key(key)
        if key not in self.key_row:
            raise Lacks(key)
        at = self.key_row.index(key)
        return Inner(left_out(self.key_row, at), left_out(self.good_row, at + 1))

    def is_kin(self, thing):
        """Whether the thing is an Inner."""
        return isinstance(thing, Inner)

    def least_parted(self):
        """How many keys an Inner must have to be parted."""
        return LEAST_PARTED_INNER

    def halves(self):
        """Both parts and the key between, which neither part keeps."""
        at = self.many() // 2
        left = Inner(self.key_row[:at], self.good_row[:at + 1])
        right = Inner(self.key_row[at + 1:], self.good_row[at + 1:])
        return (left, self.key_row[at], right)

    def many_with(self, other):
        """How many keys this Inner, the key between, and the other Inner have together."""
        return self.many() + 1 + other.many()

    def may_join(self, key, other):
        """Whether the key may stand between this Inner and the other one, and in neither of them."""
        return stands_between(self.key_row, key, other.key_row) and key not in other.key_row

    def put_together(self, key, other):
        """The Inner with the keys of both, the key between, and the places of both."""
        for place in other.good_row:
            if place in self.good_row:
                raise NoPlace(place)
        return Inner(self.key_row + (key,) + other.key_row, self.good_row + other.good_row)
