"""Weighted asks: the joined layout with the least cost, and lists of costs that show it."""

from leafpages.layouts import pages_tied
from leafpages.trees import keys_of, knot_at, with_kids


def burdens_by_key(tree, weights):
    told = dict(zip(keys_of(tree), weights))
    for key, kids in with_kids(tree):
        told[key] += sum([told[kid] for kid in kids])
    return told


def burden(tree, weights, key):
    return burdens_by_key(tree, weights)[key]


def side_sums(side, room, burdens, told):
    # By how many knots of the side are in the page above it, from none on.
    if side is None:
        return [0] * room
    costs = told[side[1]]
    return [burdens[side[1]] + costs[-1]] + list(costs[:-1])


def sums_over_shares(knot, most, room, burdens, told):
    # By how many knots of the left side are in the knot's page, where both sides have one less than most there.
    left = side_sums(knot[0], room, burdens, told)
    right = side_sums(knot[2], room, burdens, told)
    return [left[share] + right[most - 1 - share] for share in range(most)]


def made_costs(knot, room, burdens, told):
    return tuple([min(sums_over_shares(knot, most, room, burdens, told)) for most in range(1, room + 1)])


def costs_by_key(tree, room, burdens):
    told = {}
    for key, kids in with_kids(tree):
        told[key] = made_costs(knot_at(tree, key), room, burdens, told)
    return told


def tied_below(knot, most, room, burdens, told):
    if knot is None:
        return []
    sums = sums_over_shares(knot, most, room, burdens, told)
    left_share = sums.index(min(sums))
    tied = []
    for side, share in ((knot[0], left_share), (knot[2], most - 1 - left_share)):
        if side is not None and share > 0:
            tied.append(side[1])
        # A side without a share begins a page of its own, which has the whole room.
        tied.extend(tied_below(side, share or room, room, burdens, told))
    return tied


def least_cost(tree, burdens, told):
    return 0 if tree is None else burdens[tree[1]] + told[tree[1]][-1]


def cheapest(tree, room, weights):
    burdens = burdens_by_key(tree, weights)
    told = costs_by_key(tree, room, burdens)
    layout = pages_tied(tree, tied_below(tree, room, room, burdens, told))
    return (least_cost(tree, burdens, told), layout, [(key, told[key]) for key in keys_of(tree)])


def never_rises(costs):
    return all([after <= ahead for ahead, after in zip(costs, costs[1:])])


def is_at_most(costs, made):
    return all([one <= other for one, other in zip(costs, made)])


def shows_cost(tree, room, weights, table, number):
    if [row[0] for row in table] != keys_of(tree) or any([len(row[1]) != room for row in table]):
        return False
    told = dict(table)
    burdens = burdens_by_key(tree, weights)
    for key, costs in table:
        made = made_costs(knot_at(tree, key), room, burdens, told)
        if not never_rises(costs) or not is_at_most(costs, made):
            return False
    return number <= least_cost(tree, burdens, told)
