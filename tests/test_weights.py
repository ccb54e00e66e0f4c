"""leafpages.weights: points 15 and 16, and what point 3 says of weighted asks."""

import itertools
import random
import unittest

import helper
from leafpages.layouts import cost, fault, first_parted
from leafpages.weights import burden, cheapest, shows_cost

SEVEN = helper.low_tree([1, 2, 3, 4, 5, 6, 7])
CHAIN = helper.right_leaning([1, 2, 3, 4])
ROOMS = tuple(range(1, 13))


def plain_burdens(tree, weights):
    """Each weight is told to all knots on the way to its key."""
    burdens = {key: 0 for key in helper.plain_keys(tree)}
    for key, weight in zip(helper.plain_keys(tree), weights):
        for knot in helper.plain_way(tree, key):
            burdens[knot] += weight
    return burdens


def plain_made(left, right, room, burdens, told):
    """What point 15 makes of the tuples told of a knot's kids, one number after the other."""
    def comes_to(side, count):
        if side is None:
            return 0
        if count == 0:
            return burdens[side[1]] + told[side[1]][-1]
        return told[side[1]][count - 1]

    return tuple(min(comes_to(left, i) + comes_to(right, j)
                     for i in range(k) for j in range(k) if i + j == k - 1) for k in range(1, room + 1))


def plain_costs(tree, room, weights):
    told = {}
    burdens = plain_burdens(tree, weights)
    for key, left, right, up in reversed(helper.knots(tree)):
        told[key] = plain_made(left, right, room, burdens, told)
    return sorted(told.items())


def plain_shows(tree, room, weights, table, number):
    told = dict(table)
    burdens = plain_burdens(tree, weights)
    for key, left, right, up in helper.knots(tree):
        made = plain_made(left, right, room, burdens, told)
        for place in range(room):
            if told[key][place] > made[place] or place and told[key][place] > told[key][place - 1]:
                return False
    return number <= sum(weights) + told[tree[1]][-1]


def joined_counts(tree):
    """For each joined layout its greatest page, the page of the top, and the pages met, key by key."""
    told = []
    for layout in helper.joined_layouts(tree):
        top_page = [page for page in layout if tree is not None and tree[1] in page]
        counts = helper.plain_counts(tree, layout)
        told.append((max([len(page) for page in layout], default=0), sum(len(page) for page in top_page),
                     [counts[key] for key in helper.plain_keys(tree)]))
    return told


def sum_of(weights, counts):
    return sum(weight * count for weight, count in zip(weights, counts))


def least_of_all(counted, room, weights):
    return min(sum_of(weights, counts) for size, top, counts in counted if size <= room)


class Burden(unittest.TestCase):
    def test_ordinary(self):
        weights = [1, 10, 100, 1000, 10000, 100000, 1000000]
        self.assertEqual(burden(SEVEN, weights, 4), 1111111)
        self.assertEqual(burden(SEVEN, weights, 2), 111)
        self.assertEqual(burden(SEVEN, weights, 6), 1110000)
        self.assertEqual(burden(SEVEN, weights, 5), 10000)
        self.assertEqual(burden(CHAIN, [5, 0, 2, 1], 2), 3)

    def test_one_key(self):
        self.assertEqual(burden((None, 0, None), [7], 0), 7)
        self.assertEqual(burden((None, 0, None), [0], 0), 0)

    def test_many_trees(self):
        draw = random.Random(10)
        for tree in helper.many_trees():
            keys = helper.plain_keys(tree)
            weights = helper.drawn_weights(len(keys), draw)
            self.assertEqual({key: burden(tree, weights, key) for key in keys}, plain_burdens(tree, weights))


class Cheapest(unittest.TestCase):
    def test_by_hand(self):
        tree = ((None, 1, None), 2, (None, 3, None))
        self.assertEqual(cheapest(tree, 1, [5, 1, 3]),
                         (17, [[1], [2], [3]], [(1, (0,)), (2, (8,)), (3, (0,))]))
        self.assertEqual(cheapest(tree, 2, [5, 1, 3]),
                         (12, [[1, 2], [3]], [(1, (0, 0)), (2, (8, 3)), (3, (0, 0))]))
        self.assertEqual(cheapest(tree, 3, [5, 1, 3]),
                         (9, [[1, 2, 3]], [(1, (0, 0, 0)), (2, (8, 3, 0)), (3, (0, 0, 0))]))

    def test_a_chain_by_hand(self):
        told = cheapest(CHAIN, 2, [1, 1, 1, 1])
        self.assertEqual(told, (6, [[1, 2], [3, 4]], [(1, (4, 2)), (2, (2, 1)), (3, (1, 0)), (4, (0, 0))]))
        self.assertEqual(cheapest(CHAIN, 2, [0, 0, 9, 1])[0], 20)
        self.assertEqual(cheapest(CHAIN, 2, [0, 9, 0, 1])[0], 11)

    def test_the_heaviest_side_is_kept(self):
        cost_told, layout, costs = cheapest(SEVEN, 3, [0, 0, 0, 0, 0, 0, 100])
        self.assertEqual(cost_told, 100)
        self.assertIn([4, 6, 7], layout)

    def test_the_empty_tree(self):
        for room in ROOMS:
            self.assertEqual(cheapest(None, room, []), (0, [], []))

    def test_one_key(self):
        for room in ROOMS:
            self.assertEqual(cheapest((None, 0, None), room, [7]), (7, [[0]], [(0, (0,) * room)]))
            self.assertEqual(cheapest((None, 5, None), room, [0]), (0, [[5]], [(5, (0,) * room)]))

    def test_weights_of_nought_alone(self):
        for tree in helper.many_trees():
            keys = helper.plain_keys(tree)
            cost_told, layout, costs = cheapest(tree, 4, [0] * len(keys))
            self.assertEqual(cost_told, 0)
            self.assertEqual(costs, [(key, (0, 0, 0, 0)) for key in keys])
            self.assertIsNone(fault(tree, 4, layout))
            self.assertIsNone(first_parted(tree, layout))

    def test_room_one_is_each_key_by_itself(self):
        for tree in helper.many_trees():
            keys = helper.plain_keys(tree)
            self.assertEqual(sorted(cheapest(tree, 1, [1] * len(keys))[1]), [[key] for key in keys])

    def test_many_trees(self):
        draw = random.Random(11)
        for tree in helper.many_trees():
            keys = helper.plain_keys(tree)
            for room in ROOMS if len(keys) < 21 else draw.sample(ROOMS, 3):
                weights = helper.drawn_weights(len(keys), draw)
                cost_told, layout, costs = cheapest(tree, room, weights)
                self.assertIsNone(fault(tree, room, layout))
                self.assertIsNone(first_parted(tree, layout))
                self.assertNotIn([], layout)
                counts = helper.plain_counts(tree, layout)
                self.assertEqual(cost_told, sum_of(weights, [counts[key] for key in keys]))
                self.assertEqual(costs, plain_costs(tree, room, weights))
                if tree is not None:
                    self.assertEqual(cost_told, sum(weights) + dict(costs)[tree[1]][-1])
                self.assertIs(shows_cost(tree, room, weights, costs, cost_told), True)

    def test_every_room_with_sixty_keys(self):
        draw = random.Random(12)
        keys = helper.drawn_keys(60, draw)
        for tree in (helper.low_tree(keys), helper.zigzag(keys), helper.drawn_tree(keys, draw)):
            weights = helper.drawn_weights(60, draw)
            ahead = None
            for room in ROOMS:
                cost_told, layout, costs = cheapest(tree, room, weights)
                self.assertIsNone(fault(tree, room, layout))
                self.assertIsNone(first_parted(tree, layout))
                self.assertEqual(cost(tree, layout, weights), cost_told)
                self.assertTrue(ahead is None or cost_told <= ahead)
                ahead = cost_told

    def test_drawn_joined_layouts_cost_no_less(self):
        draw = random.Random(13)
        for tree in helper.many_trees():
            keys = helper.plain_keys(tree)
            weights = helper.drawn_weights(len(keys), draw)
            for room in (2, 5, 12):
                layout = helper.drawn_joined_layout(tree, room, draw)
                self.assertLessEqual(cheapest(tree, room, weights)[0], cost(tree, layout, weights))

    def test_every_small_tree_every_joined_layout(self):
        draw = random.Random(14)
        for count in range(8):
            for tree in helper.shapes(list(range(count))):
                counted = joined_counts(tree)
                for room in range(1, count + 2):
                    weights = [draw.choice((0, 1, 1, 2, 5, 30)) for key in range(count)]
                    self.assertEqual(cheapest(tree, room, weights)[0], least_of_all(counted, room, weights))

    def test_what_the_numbers_of_the_top_mean(self):
        draw = random.Random(15)
        for count in range(1, 7):
            for tree in helper.shapes(list(range(count))):
                counted = joined_counts(tree)
                for room in range(1, count + 1):
                    weights = [draw.randrange(6) for key in range(count)]
                    costs = dict(cheapest(tree, room, weights)[2])[tree[1]]
                    for k in range(1, room + 1):
                        least = min(sum_of(weights, counts) - sum(weights) for size, top, counts in counted
                                    if size <= room and top <= k)
                        self.assertEqual(costs[k - 1], least)

    def test_kinds(self):
        told = cheapest(SEVEN, 3, [1, 2, 3, 4, 5, 6, 7])
        self.assertEqual([type(part) for part in told], [int, list, list])
        self.assertIsInstance(told, tuple)
        for page in told[1]:
            self.assertIsInstance(page, list)
        for row in told[2]:
            self.assertEqual([type(part) for part in row], [int, tuple])
            self.assertEqual([type(number) for number in row[1]], [int, int, int])

    def test_somewhat_more_room_is_not_refused(self):
        weights = [1, 2, 3, 4, 5, 6, 7]
        self.assertEqual(cheapest(SEVEN, 14, weights)[:2], (28, [[1, 2, 3, 4, 5, 6, 7]]))


def with_row(table, place, row):
    return table[:place] + [row] + table[place + 1:]


class ShowsCost(unittest.TestCase):
    def setUp(self):
        self.weights = [3, 0, 4, 1, 5, 9, 2]
        self.cost, self.layout, self.table = cheapest(SEVEN, 3, self.weights)

    def shows(self, table, number):
        return shows_cost(SEVEN, 3, self.weights, table, number)

    def test_costs_told_show_the_cost_and_no_more(self):
        draw = random.Random(16)
        for tree in helper.many_trees():
            keys = helper.plain_keys(tree)
            weights = helper.drawn_weights(len(keys), draw)
            for room in (1, 2, 5, 12):
                cost_told, layout, table = cheapest(tree, room, weights)
                for number in (cost_told, cost_told - 1, 0, -1, -10 ** 59):
                    self.assertIs(shows_cost(tree, room, weights, table, number), True)
                for number in (cost_told + 1, cost_told + 10 ** 59):
                    self.assertIs(shows_cost(tree, room, weights, table, number), False)

    def test_the_empty_tree(self):
        for room in ROOMS:
            self.assertIs(shows_cost(None, room, [], [], 0), True)
            self.assertIs(shows_cost(None, room, [], [], -1), True)
            self.assertIs(shows_cost(None, room, [], [], 1), False)
            self.assertIs(shows_cost(None, room, [], [(0, (0,) * room)], 0), False)

    def test_one_key(self):
        tree = (None, 5, None)
        self.assertIs(shows_cost(tree, 2, [7], [(5, (0, 0))], 7), True)
        self.assertIs(shows_cost(tree, 2, [7], [(5, (0, 0))], 8), False)
        self.assertIs(shows_cost(tree, 2, [7], [(5, (0, -3))], 4), True)
        self.assertIs(shows_cost(tree, 2, [7], [(5, (0, -3))], 5), False)
        self.assertIs(shows_cost(tree, 2, [7], [(5, (-1, -1))], 6), True)
        for costs in ((1, 0), (0, 1), (1, 1), (-1, 0), (-3, -2)):
            for number in (7, 0, -9):
                self.assertIs(shows_cost(tree, 2, [7], [(5, costs)], number), False, costs)

    def test_rows_left_out_twice_exchanged_or_strange(self):
        table = self.table
        self.assertIs(self.shows(table, self.cost), True)
        for place in range(7):
            costs = table[place][1]
            for number in (self.cost, 0, -1):
                self.assertIs(self.shows(table[:place] + table[place + 1:], number), False)
                self.assertIs(self.shows(table[:place] + [table[place]] + table[place:], number), False)
                self.assertIs(self.shows(table + [table[place]], number), False)
                self.assertIs(self.shows(with_row(table, place, (9, costs)), number), False)
                self.assertIs(self.shows(with_row(table, place, (-9, costs)), number), False)
        for place in range(6):
            self.assertIs(self.shows(table[:place] + [table[place + 1], table[place]] + table[place + 2:], 0), False)
        self.assertIs(self.shows(table[::-1], 0), False)
        self.assertIs(self.shows([(0, (0, 0, 0))] + table, 0), False)
        self.assertIs(self.shows(table + [(8, (0, 0, 0))], 0), False)
        self.assertIs(self.shows([], 0), False)

    def test_costs_of_two_keys_exchanged(self):
        table = list(self.table)
        table[1], table[3] = (2, table[3][1]), (4, table[1][1])
        self.assertIs(self.shows(table, 0), False)

    def test_a_number_too_great(self):
        draw = random.Random(17)
        for tree in helper.many_trees():
            keys = helper.plain_keys(tree)
            if len(keys) < 21:
                weights = helper.drawn_weights(len(keys), draw)
                for room in (1, 3, 12):
                    table = cheapest(tree, room, weights)[2]
                    for place, (key, costs) in enumerate(table):
                        for spot in range(room):
                            wrong = costs[:spot] + (costs[spot] + 1,) + costs[spot + 1:]
                            self.assertIs(shows_cost(tree, room, weights, with_row(table, place, (key, wrong)), 0),
                                          False)

    def test_a_number_that_rises(self):
        for place, (key, costs) in enumerate(self.table):
            for wrong in ((costs[0] - 10 ** 3, costs[1], costs[2]), (costs[0], costs[2] - 1, costs[2])):
                self.assertIs(self.shows(with_row(self.table, place, (key, wrong)), -10 ** 6), False, wrong)

    def test_lesser_numbers_lead_to_a_lesser_one(self):
        less_by = {1: 1, 2: 3, 3: 1, 4: 7, 5: 1, 6: 3, 7: 1}
        lesser = [(key, tuple(number - less_by[key] for number in costs)) for key, costs in self.table]
        self.assertIs(self.shows(lesser, self.cost - 7), True)
        self.assertIs(self.shows(lesser, self.cost - 6), False)

    def test_a_number_that_asks_too_much_of_lesser_ones_below(self):
        lesser = [(key, tuple(number - 1 for number in costs)) for key, costs in self.table]
        self.assertIs(self.shows(lesser, self.cost - 1), False)

    def test_the_burden_of_a_kid_counts_where_it_begins_a_page(self):
        tree = ((None, 1, None), 2, None)
        self.assertIs(shows_cost(tree, 2, [5, 1], [(1, (0, 0)), (2, (5, 0))], 6), True)
        self.assertIs(shows_cost(tree, 2, [5, 1], [(1, (0, 0)), (2, (6, 0))], 6), False)
        self.assertIs(shows_cost(tree, 2, [5, 1], [(1, (0, -2)), (2, (3, 0))], 6), True)
        self.assertIs(shows_cost(tree, 2, [5, 1], [(1, (0, -2)), (2, (4, 0))], 6), False)
        self.assertIs(shows_cost(tree, 2, [5, 1], [(1, (-1, -2)), (2, (3, 0))], 0), False)

    def test_other_weights(self):
        weights = list(self.weights)
        weights[0] = 2
        self.assertIs(shows_cost(SEVEN, 3, weights, self.table, 0), False)
        weights[0] = 4
        self.assertIs(shows_cost(SEVEN, 3, weights, self.table, self.cost), True)

    def test_tuples_of_another_length_show_nothing(self):
        self.assertIs(shows_cost((None, 5, None), 2, [7], [(5, (0,))], 0), False)
        self.assertIs(shows_cost((None, 5, None), 2, [7], [(5, (0, 0, 0))], 0), False)
        self.assertIs(shows_cost((None, 5, None), 2, [7], [(5, ())], 0), False)

    def test_all_small_lists_by_the_words(self):
        pairs = list(itertools.product(range(-1, 4), repeat=2))
        weights = [1, 2, 1]
        for tree in helper.shapes([0, 1, 2]):
            for told in itertools.product(pairs, repeat=3):
                table = list(enumerate(told))
                self.assertIs(shows_cost(tree, 2, weights, table, 4), plain_shows(tree, 2, weights, table, 4))

    def test_what_is_shown_no_joined_layout_undercuts(self):
        draw = random.Random(18)
        shown = 0
        for tree in helper.shapes([0, 1, 2, 3, 4]):
            counted = joined_counts(tree)
            for step in range(150):
                room = draw.randrange(1, 6)
                weights = [draw.randrange(4) for key in range(5)]
                table = [(key, tuple(sorted((number - draw.choice((0, 0, 0, 1, -1)) for number in costs),
                                            reverse=True)))
                         for key, costs in cheapest(tree, room, weights)[2]]
                least = least_of_all(counted, room, weights)
                for number in range(max(0, least - 2), least + 3):
                    if shows_cost(tree, room, weights, table, number):
                        shown += number > 0
                        self.assertGreaterEqual(least, number)
        self.assertGreater(shown, 100)
