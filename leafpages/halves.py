"""Halves of height: one order of a tree's keys that is good for pages of every size."""

from leafpages.trees import keys_of, way_to


def levels_of(tree):
    # The height of a tree that isn't empty; told anew here, as most_pieces has an argument of that name.
    return max([len(way_to(tree, key)) for key in keys_of(tree)])


def knots_beneath(knot, levels):
    if knot is None:
        return []
    if levels == 0:
        return [knot]
    return knots_beneath(knot[0], levels - 1) + knots_beneath(knot[2], levels - 1)


def halves_of(knot, levels):
    upper = levels // 2
    return [(knot, upper)] + [(lower, levels - upper) for lower in knots_beneath(knot, upper)]


def order_down(knot, levels):
    if levels == 1:
        return [knot[1]]
    order = []
    for part, part_levels in halves_of(knot, levels):
        order.extend(order_down(part, part_levels))
    return order


def by_halves(tree):
    return [] if tree is None else order_down(tree, levels_of(tree))


def cut(keys, size, ahead):
    layout = []
    last_number = None
    for place, key in enumerate(keys):
        number = (place + ahead) // size
        if number != last_number:
            layout.append([])
            last_number = number
        layout[-1].append(key)
    return layout


def pieces_down(knot, levels, size):
    order = order_down(knot, levels)
    if len(order) <= size:
        return [order]
    told = []
    for part, part_levels in halves_of(knot, levels):
        told.extend(pieces_down(part, part_levels, size))
    return told


def pieces(tree, size):
    return [] if tree is None else pieces_down(tree, levels_of(tree), size)


def most_pieces(height, size):
    if height == 0:
        return 0
    if (1 << height) - 1 <= size:
        return 1
    return most_pieces(height // 2, size) + most_pieces(height - height // 2, size)
