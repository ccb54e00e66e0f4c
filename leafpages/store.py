"""The store: a tree laid out in pages of slots, and its keys looked up page by page.

A slot is a tuple (key, left, right), left and right None or a spot, a tuple (page, slot) of two numbers.
"""

from leafpages.trees import knot_at


def spots_by_key(layout):
    spots = {}
    for number, page in enumerate(layout):
        for place, key in enumerate(page):
            spots[key] = (number, place)
    return spots


def spot_of(tree, spots):
    return None if tree is None else spots[tree[1]]


def slot_of(tree, key, spots):
    knot = knot_at(tree, key)
    return (key, spot_of(knot[0], spots), spot_of(knot[2], spots))


def slots_of(tree, page, spots):
    return [slot_of(tree, key, spots) for key in page]


def stored(tree, layout):
    spots = spots_by_key(layout)
    return (spot_of(tree, spots), [slots_of(tree, page, spots) for page in layout])


def spot_towards(slot, key):
    if key == slot[0]:
        return None
    return slot[1] if key < slot[0] else slot[2]


def keys_along(read, top, key):
    way = []
    spot = top
    lying_open = None
    slots = []
    while spot is not None:
        if spot[0] != lying_open:
            lying_open = spot[0]
            slots = read(lying_open)
        slot = slots[spot[1]]
        way.append(slot[0])
        spot = spot_towards(slot, key)
    return way


def looked_up(read, top, key):
    return key in keys_along(read, top, key)


def nearest(read, top, key):
    # The nearest keys on both sides stand on the way to the key.
    way = keys_along(read, top, key)
    lower = max([knot for knot in way if knot <= key], default=None)
    upper = min([knot for knot in way if knot >= key], default=None)
    return (lower, upper)


def slot_at(read, kept, spot):
    # A copy is kept, as whoever reads may fill one list anew for each page.
    if spot[0] not in kept:
        kept[spot[0]] = list(read(spot[0]))
    return kept[spot[0]][spot[1]]


def keys_within(read, kept, spot, low, high):
    if spot is None:
        return []
    slot = slot_at(read, kept, spot)
    key = slot[0]
    told = []
    if low < key:
        told.extend(keys_within(read, kept, slot[1], low, high))
    if low <= key <= high:
        told.append(key)
    if key < high:
        told.extend(keys_within(read, kept, slot[2], low, high))
    return told


def between(read, top, low, high):
    return keys_within(read, {}, top, low, high) if low <= high else []
