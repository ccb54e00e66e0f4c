"""Trees and layouts for the tests, and the promises said again in a plainer, slower way."""

import itertools
import random


def knots(tree):
    """(key, left, right, up) of every knot, by a walk of the test's own."""
    found = []
    todo = [(tree, None)]
    while todo:
        knot, up = todo.pop()
        if knot is not None:
            left, key, right = knot
            found.append((key, left, right, up))
            todo.append((left, key))
            todo.append((right, key))
    return found


def plain_keys(tree):
    return sorted(key for key, left, right, up in knots(tree))


def plain_ups(tree):
    return {key: up for key, left, right, up in knots(tree)}


def plain_kids(tree):
    return {key: [side[1] for side in (left, right) if side is not None]
            for key, left, right, up in knots(tree)}


def plain_way(tree, key):
    """The way to a key of the tree, told from the key upward."""
    ups = plain_ups(tree)
    way = []
    while key is not None:
        way.insert(0, key)
        key = ups[key]
    return way


def plain_way_towards(tree, key):
    """The way to a key that may not be there: the knots that no other key of the tree parts from it."""
    way = []
    for knot, left, right, up in knots(tree):
        low, high = min(knot, key), max(knot, key)
        if not any(low <= other <= high for other in way):
            way.append(knot)
    return way


def plain_below(tree, key):
    left, right = [(found[1], found[2]) for found in knots(tree) if found[0] == key][0]
    return plain_keys(left) + plain_keys(right)


def outline(tree):
    """The keys, each one ahead of those below it: put in so, they make the tree."""
    return [] if tree is None else [tree[1]] + outline(tree[0]) + outline(tree[2])


def from_outline(keys):
    """The tree of keys put in one behind the other, told from the first one down."""
    if not keys:
        return None
    return (from_outline([key for key in keys if key < keys[0]]), keys[0],
            from_outline([key for key in keys if key > keys[0]]))


def plain_heir(tree, key):
    """The key that takes the place of a key of the tree when it is taken out, or None where a side does."""
    left, right = [(found[1], found[2]) for found in knots(tree) if found[0] == key][0]
    return None if left is None or right is None else min(plain_keys(right))


def behind_put(tree, key):
    return from_outline(outline(tree) + [key])


def behind_take(tree, key):
    keys = outline(tree)
    heir = plain_heir(tree, key)
    if heir is None:
        keys.remove(key)
    else:
        keys.remove(heir)
        keys[keys.index(key)] = heir
    return from_outline(keys)


def plain_apart(tree, keys):
    """Whether none of these keys of the tree is, or stands below, another one."""
    return all(one != other and one not in plain_way(tree, other) and other not in plain_way(tree, one)
               for one, other in itertools.combinations(keys, 2))


def plain_page(layout, key):
    return [number for number, page in enumerate(layout) if key in page][0]


def plain_counts(tree, layout):
    """For each key how many pages its way meets."""
    return {key: len({plain_page(layout, knot) for knot in plain_way(tree, key)}) for key in plain_keys(tree)}


def plain_worst(tree, layout):
    return max(plain_counts(tree, layout).values(), default=0)


def plain_made(told, kids, room):
    """What point 13 makes of the tuples told of a knot's kids."""
    if not kids:
        return (1, 1)
    m = max(told[kid][0] for kid in kids)
    s = 1
    for kid in kids:
        if told[kid][0] == m:
            s += told[kid][1]
    if s <= room:
        return (m, s)
    return (m + 1, 1)


def plain_marks(tree, room):
    kids = plain_kids(tree)
    told = {}

    def mark(key):
        for kid in kids[key]:
            mark(kid)
        told[key] = plain_made(told, kids[key], room)

    if tree is not None:
        mark(tree[1])
    return told


def plain_ties(tree, room):
    kids = plain_kids(tree)
    told = plain_marks(tree, room)
    ties = []
    for up in kids:
        if kids[up]:
            m = max(told[kid][0] for kid in kids[up])
            s = 1 + sum(told[kid][1] for kid in kids[up] if told[kid][0] == m)
            ties += [(up, kid) for kid in kids[up] if told[kid][0] == m and s <= room]
    return ties


def pages_by_ties(keys, ties):
    page_of = {key: [key] for key in keys}
    for up, kid in ties:
        joined = page_of[up] + page_of[kid]
        for key in joined:
            page_of[key] = joined
    return sorted({tuple(sorted(page)) for page in page_of.values()})


def joined_layouts(tree):
    """Each layout of joined pages: one for each choice of steps from up to kid that stay in a page."""
    steps = [(up, kid) for kid, up in plain_ups(tree).items() if up is not None]
    for choice in itertools.product((False, True), repeat=len(steps)):
        ties = [step for step, kept in zip(steps, choice) if kept]
        yield [list(page) for page in pages_by_ties(plain_keys(tree), ties)]


def partitions(things):
    if not things:
        yield []
        return
    for smaller in partitions(things[1:]):
        yield [[things[0]]] + smaller
        for place in range(len(smaller)):
            yield smaller[:place] + [[things[0]] + smaller[place]] + smaller[place + 1:]


def shapes(keys):
    """Every tree of these rising keys."""
    if not keys:
        yield None
    for place in range(len(keys)):
        for left in shapes(keys[:place]):
            for right in shapes(keys[place + 1:]):
                yield (left, keys[place], right)


def low_tree(keys):
    if not keys:
        return None
    middle = len(keys) // 2
    return (low_tree(keys[:middle]), keys[middle], low_tree(keys[middle + 1:]))


def left_leaning(keys):
    tree = None
    for key in keys:
        tree = (tree, key, None)
    return tree


def right_leaning(keys):
    tree = None
    for key in reversed(keys):
        tree = (None, key, tree)
    return tree


def zigzag(keys):
    if not keys:
        return None
    if len(keys) % 2:
        return (None, keys[0], zigzag(keys[1:]))
    return (zigzag(keys[:-1]), keys[-1], None)


def drawn_tree(keys, draw):
    if not keys:
        return None
    place = draw.randrange(len(keys))
    return (drawn_tree(keys[:place], draw), keys[place], drawn_tree(keys[place + 1:], draw))


def drawn_keys(count, draw):
    """Rising keys of both signs, of one to sixty figures."""
    keys = set()
    while len(keys) < count:
        edge = 10 ** draw.choice((1, 2, 5, 19, 40, 60))
        keys.add(draw.randrange(-edge + 1, edge))
    return sorted(keys)


def drawn_weights(count, draw):
    """Weights of none to sixty figures, 0 among them."""
    return [draw.choice((0, 1, 2, 7, 10 ** 60 - 1, draw.randrange(100), draw.randrange(10 ** 60)))
            for place in range(count)]


def many_trees():
    """Trees of none to sixty keys, of many shapes; the same ones each time."""
    draw = random.Random(1)
    trees = [None]
    for count in (1, 2, 3, 4, 5, 7, 8, 12, 20, 31, 33, 47, 59, 60):
        keys = drawn_keys(count, draw)
        for make in (low_tree, left_leaning, right_leaning, zigzag):
            trees.append(make(keys))
        trees.append(drawn_tree(keys, draw))
        trees.append(drawn_tree(keys, draw))
    return trees


def drawn_layout(tree, room, draw):
    """A layout that is right for the room, seldom joined, with pages that are empty."""
    keys = plain_keys(tree)
    draw.shuffle(keys)
    layout = [[]] if draw.randrange(2) else []
    while keys:
        size = draw.randrange(0, room + 1)
        layout.append(keys[:size])
        keys = keys[size:]
    return layout + [[]] * draw.randrange(2)


def drawn_joined_layout(tree, room, draw):
    """A layout of joined pages that is right for the room, its pages in a drawn order."""
    ups = plain_ups(tree)
    ties = []
    keys = plain_keys(tree)
    for kid in draw.sample(keys, len(keys)):
        if ups[kid] is not None and draw.randrange(4):
            longer = ties + [(ups[kid], kid)]
            if all(len(page) <= room for page in pages_by_ties(keys, longer)):
                ties = longer
    layout = [list(page) for page in pages_by_ties(keys, ties)]
    for page in layout:
        draw.shuffle(page)
    draw.shuffle(layout)
    return layout


def keys_around(tree):
    """The keys of the tree and ones beside and between them that aren't there."""
    keys = plain_keys(tree)
    around = set(keys) | {0}
    for key in keys:
        around |= {key - 1, key + 1}
    for low, high in zip(keys, keys[1:]):
        around.add((low + high) // 2)
    return sorted(around)


def put_or_take(shelf, key):
    """The one of the two deeds that isn't refused; tells its name."""
    if shelf.has(key):
        shelf.take(key)
        return "take"
    shelf.put(key)
    return "put"
