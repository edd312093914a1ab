"""The shape of a tree: its levels, its pairs, and whether all stands where it should."""

from nolocktree.words import in_stretch


def chain_from(tree, start, level, left):
    """The places from the start on to the right, as long as they are left and of this level; they are taken out."""
    chain = []
    place = start
    while place in left and tree.level_of(place) == level:
        left.pop(place)
        chain.append(place)
        high, place = tree.edge_of(place)
    return chain


def levels_of(tree):
    """The places of each level from the top's down to 0, each level from the left."""
    left = {place: True for place in tree.places()}
    start = tree.top()
    level = tree.level_of(start)
    levels = [chain_from(tree, start, level, left)]
    while level > 0:
        level -= 1
        ahead = levels[-1]
        start = tree.page(ahead[0]).goods()[0] if ahead else None
        levels.append(chain_from(tree, start, level, left))
    return levels


def pairs_of(tree):
    """The pairs (key, good) of the leaves, from the left."""
    pairs = []
    for place in levels_of(tree)[-1]:
        pairs += tree.page(place).part(None, None)
    return pairs


def children_of(tree, chain):
    """All places of the pages of these inner nodes, as the keys of a dict."""
    return {child: True for place in chain for child in tree.page(place).goods()}


def unposted(tree):
    """The places of the levels, but the top, that no node above has."""
    levels = levels_of(tree)
    places = levels[0][1:]
    for above, chain in zip(levels, levels[1:]):
        posted = children_of(tree, above)
        places += [place for place in chain if place not in posted]
    return places


def lows_of(tree, chain):
    """The low of each place of a level: the high of the one ahead, None of the first one."""
    lows = {}
    low = None
    for place in chain:
        lows[place] = low
        low, right = tree.edge_of(place)
    return lows


def covers_all(tree, levels):
    """Whether each place in use stands in a level."""
    return sum([len(chain) for chain in levels]) == len(tree.places())


def ends_well(tree, chain):
    """Whether there is a last node of the level, and it has no right."""
    return chain != [] and tree.edge_of(chain[-1]) == (None, None)


def is_in_order(tree, place, low):
    """Whether the low is below the node's high, and all its keys lie from the one up to the other."""
    high, right = tree.edge_of(place)
    if low is not None and high is not None and low >= high:
        return False
    return all([in_stretch(key, low, high) for key in tree.page(place).all_keys()])


def stands_above(tree, place, low, lows):
    """Whether each child of the inner node stands beneath, with the low that the node tells."""
    page = tree.page(place)
    told = [low] + page.all_keys()
    for child, child_low in zip(page.goods(), told):
        if child not in lows or lows[child] != child_low:
            return False
    return True


def is_level_shaped(tree, chain, beneath):
    """Whether all is well with the nodes of a level; beneath is the next level, None of the leaves."""
    lows = lows_of(tree, chain)
    lows_beneath = lows_of(tree, beneath or [])
    for place, low in lows.items():
        if tree.page(place).many() > tree.most() or not is_in_order(tree, place, low):
            return False
        if beneath is not None and not stands_above(tree, place, low, lows_beneath):
            return False
    return True


def is_shaped(tree):
    """Whether the tree is shaped; unposted nodes may be there."""
    levels = levels_of(tree)
    if not covers_all(tree, levels) or not all([ends_well(tree, chain) for chain in levels]):
        return False
    beneath = levels[1:] + [None]
    return all([is_level_shaped(tree, chain, lower) for chain, lower in zip(levels, beneath)])
