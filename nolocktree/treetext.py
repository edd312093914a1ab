"""Trees as texts: written row by row, one for each place, and read again."""

from nolocktree.errors import BadLine, NoText, TooMany
from nolocktree.lines import plain_number
from nolocktree.pages import Inner, Leaf, are_goods, are_page_keys, are_places
from nolocktree.trees import need_resting, tree_of
from nolocktree.words import GREATEST_LEVEL, is_count, is_key, is_most, is_whole

MOST_SIGNS = 4000
MOST_FIGURES = 30
MANY_IN_HEAD = 4
MANY_IN_FREE = 2
# How many words of a row stand ahead of those of its page.
LEAF_WORDS_AHEAD = 4
INNER_WORDS_AHEAD = 5


def edge_words(tree, place):
    """The words for a node's high and right."""
    high, right = tree.edge_of(place)
    return ["-", "-"] if high is None else [str(high), str(right)]


def leaf_words(page):
    """The words for a leaf's page: each key and its good."""
    return [str(one) for pair in page.part(None, None) for one in pair]


def inner_words(page):
    """The words for an inner node's page: the first place, then each key and the place behind it."""
    places = page.goods()
    return [str(places[0])] + [str(one) for pair in zip(page.all_keys(), places[1:]) for one in pair]


def written_row(tree, place):
    """The row for a place that was given once."""
    version = str(tree.version_of(place))
    if place not in tree.places():
        return f"free {version}"
    level = tree.level_of(place)
    page = tree.page(place)
    edge = edge_words(tree, place)
    if level == 0:
        return " ".join(["leaf", version] + edge + leaf_words(page))
    return " ".join(["inner", str(level), version] + edge + inner_words(page))


def write_tree(tree):
    """The text of a tree in which no node is held and no call goes on."""
    need_resting(tree)
    rows = [f"tree {tree.most()} {tree.top()} {tree.rounds().lap()}"]
    rows += [written_row(tree, place) for place in range(tree.many_places())]
    text = "\n".join(rows)
    if len(text) > MOST_SIGNS:
        raise TooMany(len(text))
    return text


def numbers_in(words):
    """The numbers that the words write, None for a word that writes none."""
    return [plain_number(word, MOST_FIGURES) for word in words]


def noded_places(rows):
    """The places of the rows whose first word tells of a node, as the keys of a dict."""
    # Only the first word counts here: what else is amiss with such a row is found when its turn comes.
    first_words = [row.strip(" ").partition(" ")[0] for row in rows[1:]]
    return {place: True for place, word in enumerate(first_words) if word in ("leaf", "inner")}


def read_edge(words, noded):
    """The high and the right that two words write; None where they write none."""
    if words == ["-", "-"]:
        return (None, None)
    if len(words) != 2:
        return None
    high, right = numbers_in(words)
    return (high, right) if is_key(high) and right in noded else None


def read_head(row, noded):
    """The most, the top and the lap that the first row tells; None where it is not as it should be."""
    words = row.split(" ")
    if words[0] != "tree" or len(words) != MANY_IN_HEAD:
        return None
    most, top, lap = numbers_in(words[1:])
    return (most, top, lap) if is_most(most) and top in noded and is_count(lap) else None


def read_free(words):
    """The version that the row of a free place tells; None where it is not as it should be."""
    if len(words) != MANY_IN_FREE:
        return None
    version = plain_number(words[1], MOST_FIGURES)
    return version if is_count(version) else None


def read_leaf(words, noded):
    """The leaf that a row tells, as a tree is made of it; None where it is not as it should be."""
    edge = read_edge(words[2:LEAF_WORDS_AHEAD], noded)
    if edge is None:
        return None
    high, right = edge
    version = plain_number(words[1], MOST_FIGURES)
    numbers = numbers_in(words[LEAF_WORDS_AHEAD:])
    keys, goods = numbers[::2], numbers[1::2]
    if not is_count(version) or not are_page_keys(keys) or not are_goods(goods, len(keys)):
        return None
    return (0, Leaf(keys, goods), high, right, version)


def read_inner(words, noded):
    """The inner node that a row tells, as a tree is made of it; None where it is not as it should be."""
    edge = read_edge(words[3:INNER_WORDS_AHEAD], noded)
    if edge is None:
        return None
    high, right = edge
    level, version = numbers_in(words[1:3])
    numbers = numbers_in(words[INNER_WORDS_AHEAD:])
    places, keys = numbers[::2], numbers[1::2]
    if not is_whole(level, 1, GREATEST_LEVEL) or not is_count(version):
        return None
    if not are_page_keys(keys) or not are_places(places, len(keys) + 1):
        return None
    return (level, Inner(keys, places), high, right, version)


def read_row(row, noded):
    """What a row tells of its place, as a tree is made of it; None where it is not as it should be."""
    words = row.split(" ")
    if words[0] == "free":
        return read_free(words)
    if words[0] == "leaf":
        return read_leaf(words, noded)
    if words[0] == "inner":
        return read_inner(words, noded)
    return None


def read_tree(text):
    """The tree that is written so."""
    if not isinstance(text, str) or len(text) > MOST_SIGNS:
        raise NoText(text)
    rows = text.split("\n")
    noded = noded_places(rows)
    head = read_head(rows[0], noded)
    if head is None:
        raise BadLine(0)
    nodes = []
    for at, row in enumerate(rows[1:], start=1):
        node = read_row(row, noded)
        if node is None:
            raise BadLine(at)
        nodes.append(node)
    most, top, lap = head
    return tree_of(most, top, lap, nodes)
