"""Search trees: None, the empty one, or a tuple (left, key, right)."""

from leafpages.errors import Full, NoTree, NotThere, There

MOST_KEYS = 60


def is_whole(thing):
    return isinstance(thing, int) and not isinstance(thing, bool)


def is_knot(thing):
    return isinstance(thing, tuple) and len(thing) == 3 and is_whole(thing[1])


def lies_between(thing, low, high):
    if thing is None:
        return True
    if not is_knot(thing):
        return False
    key = thing[1]
    if low is not None and key <= low:
        return False
    if high is not None and key >= high:
        return False
    return lies_between(thing[0], low, key) and lies_between(thing[2], key, high)


def is_tree(thing):
    # The keys are counted last: keys_of only fits what has the form of a tree.
    return lies_between(thing, None, None) and len(keys_of(thing)) <= MOST_KEYS


def keys_of(tree):
    if tree is None:
        return []
    return keys_of(tree[0]) + [tree[1]] + keys_of(tree[2])


def with_kids(tree):
    # From below up, so that what is told of the kids is known when their up comes.
    if tree is None:
        return []
    kids = [side[1] for side in (tree[0], tree[2]) if side is not None]
    return with_kids(tree[0]) + with_kids(tree[2]) + [(tree[1], kids)]


def side_towards(tree, key):
    return tree[0] if key < tree[1] else tree[2]


def knot_at(tree, key):
    while tree is not None and tree[1] != key:
        tree = side_towards(tree, key)
    return tree


def way_to(tree, key):
    way = []
    while tree is not None and tree[1] != key:
        way.append(tree[1])
        tree = side_towards(tree, key)
    return way if tree is None else way + [key]


def height(tree):
    if tree is None:
        return 0
    return 1 + max(height(tree[0]), height(tree[2]))


def with_key(tree, key):
    if tree is None:
        return (None, key, None)
    if key < tree[1]:
        return (with_key(tree[0], key), tree[1], tree[2])
    return (tree[0], tree[1], with_key(tree[2], key))


def put(tree, key):
    if knot_at(tree, key) is not None:
        raise There("the key is in the tree")
    if len(keys_of(tree)) >= MOST_KEYS:
        raise Full("the tree has sixty keys")
    return with_key(tree, key)


def tree_of(keys):
    if len(set(keys)) < len(keys):
        raise NoTree("two keys are alike")
    tree = None
    for key in keys:
        tree = with_key(tree, key)
    return tree


def without_key(tree, key):
    if key < tree[1]:
        return (without_key(tree[0], key), tree[1], tree[2])
    if key > tree[1]:
        return (tree[0], tree[1], without_key(tree[2], key))
    if tree[0] is None:
        return tree[2]
    if tree[2] is None:
        return tree[0]
    heir = keys_of(tree[2])[0]
    return (tree[0], heir, without_key(tree[2], heir))


def taken(tree, key):
    if knot_at(tree, key) is None:
        raise NotThere("the key isn't in the tree")
    return without_key(tree, key)


def up_of(tree, key):
    way = way_to(tree, key)
    return way[-2] if len(way) > 1 else None


def below(tree, key):
    knot = knot_at(tree, key)
    return keys_of(knot[0]) + keys_of(knot[2])


def mirrored(tree):
    if tree is None:
        return None
    return (mirrored(tree[2]), -tree[1], mirrored(tree[0]))
