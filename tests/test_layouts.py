"""leafpages.layouts: points 8 to 12."""

import itertools
import random
import unittest

import helper
from leafpages.layouts import cost, fault, first_parted, page_turns, pages_met, together, worst

# 4 above 2 and 6, 2 above 1 and 3, 6 above 5 and 7.
SEVEN = helper.low_tree([1, 2, 3, 4, 5, 6, 7])
CHAIN = helper.right_leaning([1, 2, 3, 4, 5])


def trees_and_layouts():
    """Many trees, each with layouts, joined and not, and a room that these are right for."""
    draw = random.Random(3)
    for tree in helper.many_trees():
        for room in (1, 2, 3, 7, 25, 60):
            yield tree, room, helper.drawn_layout(tree, room, draw)
            yield tree, room, helper.drawn_joined_layout(tree, room, draw)


class Fault(unittest.TestCase):
    def test_right_ones(self):
        for tree, room, layout in trees_and_layouts():
            self.assertIsNone(fault(tree, room, layout))
        self.assertIsNone(fault(SEVEN, 7, [[7, 6, 5, 4, 3, 2, 1]]))
        self.assertIsNone(fault(SEVEN, 3, [[], [4, 2, 6], [], [1, 3], [5, 7], []]))

    def test_the_empty_tree(self):
        self.assertIsNone(fault(None, 1, []))
        self.assertIsNone(fault(None, 60, [[], []]))
        self.assertEqual(fault(None, 1, [[], [0]]), ("strange", 1, 0))

    def test_strange(self):
        self.assertEqual(fault(SEVEN, 60, [[1, 2, 3], [4, 9, 6], [5, 7]]), ("strange", 1, 9))
        self.assertEqual(fault(SEVEN, 60, [[0]]), ("strange", 0, 0))
        self.assertEqual(fault(SEVEN, 60, [[], [], [1, -1, 8]]), ("strange", 2, -1))
        self.assertEqual(fault(SEVEN, 60, [[8, 8]]), ("strange", 0, 8))

    def test_twice(self):
        self.assertEqual(fault(SEVEN, 60, [[1, 2, 1], [3, 4, 5, 6, 7]]), ("twice", 0, 1))
        self.assertEqual(fault(SEVEN, 60, [[1, 2], [3, 2], [4, 5, 6, 7]]), ("twice", 1, 2))
        self.assertEqual(fault(SEVEN, 60, [[1, 2, 3, 4], [5, 6, 7], [], [7]]), ("twice", 3, 7))
        self.assertEqual(fault(SEVEN, 60, [[3, 3, 3]]), ("twice", 0, 3))

    def test_room(self):
        self.assertEqual(fault(SEVEN, 2, [[1, 2], [3, 4, 5], [6, 7]]), ("room", 1))
        self.assertEqual(fault(SEVEN, 6, [[1, 2, 3, 4, 5, 6, 7]]), ("room", 0))
        self.assertEqual(fault(SEVEN, 1, [[1], [], [2], [3, 4], [5, 6, 7]]), ("room", 3))

    def test_lacks(self):
        self.assertEqual(fault(SEVEN, 3, [[7, 6, 5], [3, 2]]), ("lacks", 1))
        self.assertEqual(fault(SEVEN, 60, [[1, 2, 3, 4, 5, 6]]), ("lacks", 7))
        self.assertEqual(fault(SEVEN, 60, [[1, 2], [], [6, 4]]), ("lacks", 3))
        self.assertEqual(fault(SEVEN, 60, []), ("lacks", 1))
        self.assertEqual(fault(helper.low_tree([-3, 0, 3]), 60, [[3, -3]]), ("lacks", 0))

    def test_strange_and_twice_go_by_their_places(self):
        self.assertEqual(fault(SEVEN, 60, [[1, 1, 9]]), ("twice", 0, 1))
        self.assertEqual(fault(SEVEN, 60, [[1, 9, 1]]), ("strange", 0, 9))
        self.assertEqual(fault(SEVEN, 60, [[1], [1], [9]]), ("twice", 1, 1))
        self.assertEqual(fault(SEVEN, 60, [[1], [9], [1]]), ("strange", 1, 9))

    def test_these_go_ahead_of_room_and_room_ahead_of_lacks(self):
        self.assertEqual(fault(SEVEN, 1, [[1, 2, 3], [9]]), ("strange", 1, 9))
        self.assertEqual(fault(SEVEN, 1, [[1, 2, 3], [2]]), ("twice", 1, 2))
        self.assertEqual(fault(SEVEN, 1, [[5], [6, 7]]), ("room", 1))
        self.assertEqual(fault(SEVEN, 1, [[1, 2, 9]]), ("strange", 0, 9))
        self.assertEqual(fault(SEVEN, 60, [[2, 9]]), ("strange", 0, 9))

    def test_rooms_one_and_sixty(self):
        keys = list(range(60))
        tree = helper.zigzag(keys)
        self.assertIsNone(fault(tree, 60, [keys]))
        self.assertIsNone(fault(tree, 1, [[key] for key in keys]))
        self.assertEqual(fault(tree, 59, [keys]), ("room", 0))
        self.assertEqual(fault(tree, 60, [keys + [60]]), ("strange", 0, 60))
        self.assertEqual(fault(tree, 60, [keys, [0]]), ("twice", 1, 0))

    def test_small_layouts_by_the_words(self):
        tree = helper.low_tree([0, 1, 2])
        pages = [list(page) for size in range(3) for page in itertools.product((0, 1, 2, 3), repeat=size)]
        for layout in itertools.product(pages, repeat=2):
            for room in (1, 2):
                self.assertEqual(fault(tree, room, list(layout)), plain_fault(tree, room, list(layout)))


def plain_fault(tree, room, layout):
    keys = helper.plain_keys(tree)
    places = [(number, key) for number, page in enumerate(layout) for key in page]
    faults = []
    for spot, (number, key) in enumerate(places):
        if key not in keys:
            faults.append(("strange", number, key))
        elif key in [other for page, other in places[:spot]]:
            faults.append(("twice", number, key))
    faults += [("room", number) for number, page in enumerate(layout) if len(page) > room]
    faults += [("lacks", key) for key in keys if key not in [other for page, other in places]]
    return (faults + [None])[0]


class FirstParted(unittest.TestCase):
    def test_ordinary(self):
        self.assertIsNone(first_parted(SEVEN, [[4, 2, 6], [1], [3], [5], [7]]))
        self.assertIsNone(first_parted(SEVEN, [[7, 6, 5, 4, 3, 2, 1]]))
        self.assertEqual(first_parted(SEVEN, [[4, 2, 6], [1, 3], [5, 7]]), 1)
        self.assertEqual(first_parted(SEVEN, [[4], [6, 5, 7], [2], [1, 3]]), 3)
        self.assertEqual(first_parted(SEVEN, [[4, 1], [2, 3, 6, 5, 7]]), 0)

    def test_two_sides_without_their_up(self):
        self.assertEqual(first_parted(SEVEN, [[4], [2, 1, 3, 6, 5, 7]]), 1)

    def test_a_knot_and_one_far_below(self):
        self.assertEqual(first_parted(CHAIN, [[1, 3], [2], [4, 5]]), 0)
        self.assertEqual(first_parted(CHAIN, [[4, 5], [1, 3], [2]]), 1)
        self.assertIsNone(first_parted(CHAIN, [[4, 5], [3, 2, 1]]))

    def test_empty_pages_are_none(self):
        self.assertIsNone(first_parted(None, []))
        self.assertIsNone(first_parted(None, [[], []]))
        self.assertIsNone(first_parted(CHAIN, [[], [1, 2], [], [3, 4, 5]]))
        self.assertEqual(first_parted(CHAIN, [[], [1, 2], [], [3, 5], [4]]), 3)

    def test_one_key(self):
        self.assertIsNone(first_parted((None, 0, None), [[0]]))

    def test_an_up_of_nought(self):
        self.assertIsNone(first_parted((None, 0, (None, 4, None)), [[4, 0]]))

    def test_all_layouts_of_small_trees(self):
        for count in range(6):
            keys = list(range(count))
            for tree in helper.shapes(keys):
                joined = sorted(sorted(layout) for layout in helper.joined_layouts(tree))
                found = sorted(sorted(layout) for layout in helper.partitions(keys)
                               if first_parted(tree, layout) is None)
                self.assertEqual(found, joined)

    def test_the_first_one_is_told(self):
        for tree, room, layout in trees_and_layouts():
            ups = helper.plain_ups(tree)
            parted = [number for number, page in enumerate(layout)
                      if len([key for key in page if ups[key] not in page]) > 1]
            self.assertEqual(first_parted(tree, layout), parted[0] if parted else None)


class PagesMetAndTurns(unittest.TestCase):
    def test_ordinary(self):
        layout = [[1, 3], [4, 2, 6], [5], [7]]
        self.assertEqual(pages_met(SEVEN, layout, 3), [1, 0])
        self.assertEqual(pages_met(SEVEN, layout, 6), [1])
        self.assertEqual(pages_met(SEVEN, layout, 7), [1, 3])
        self.assertEqual(page_turns(SEVEN, layout, 3), 2)
        self.assertEqual(page_turns(SEVEN, layout, 4), 1)

    def test_pages_come_again(self):
        layout = [[2, 4], [1, 3], [5]]
        self.assertEqual(pages_met(CHAIN, layout, 5), [1, 0, 2])
        self.assertEqual(page_turns(CHAIN, layout, 5), 5)
        self.assertEqual(pages_met(CHAIN, layout, 3), [1, 0])
        self.assertEqual(page_turns(CHAIN, layout, 3), 3)
        self.assertEqual(page_turns(CHAIN, [[1, 2], [], [5, 4], [3]], 5), 3)

    def test_keys_that_are_not_there(self):
        layout = [[], [2, 4], [1, 3], [5]]
        self.assertEqual(pages_met(CHAIN, layout, 0), [2])
        self.assertEqual(page_turns(CHAIN, layout, 0), 1)
        self.assertEqual(pages_met(CHAIN, layout, 99), [2, 1, 3])
        self.assertEqual(page_turns(CHAIN, layout, 99), 5)

    def test_a_way_without_keys(self):
        for layout in ([], [[]], [[], []]):
            self.assertEqual(pages_met(None, layout, 3), [])
            self.assertEqual(page_turns(None, layout, 3), 0)

    def test_many(self):
        for tree, room, layout in trees_and_layouts():
            for key in helper.plain_keys(tree)[::3]:
                numbers = [helper.plain_page(layout, knot) for knot in helper.plain_way(tree, key)]
                met = [number for place, number in enumerate(numbers) if number not in numbers[:place]]
                self.assertEqual(pages_met(tree, layout, key), met)
                self.assertEqual(page_turns(tree, layout, key), len(list(itertools.groupby(numbers))))

    def test_as_many_turns_as_pages_where_joined(self):
        draw = random.Random(4)
        for tree in helper.many_trees():
            layout = helper.drawn_joined_layout(tree, 5, draw)
            self.assertIsNone(first_parted(tree, layout))
            for key in helper.keys_around(tree):
                self.assertEqual(page_turns(tree, layout, key), len(pages_met(tree, layout, key)))


class WorstAndCost(unittest.TestCase):
    def test_ordinary(self):
        layout = [[4, 2, 6], [1, 3], [5], [7]]
        self.assertEqual(worst(SEVEN, layout), 2)
        self.assertEqual(worst(SEVEN, [[1, 2, 3, 4, 5, 6, 7]]), 1)
        self.assertEqual(worst(SEVEN, [[1], [2], [3], [4], [5], [6], [7]]), 3)
        self.assertEqual(cost(SEVEN, layout, [1, 1, 1, 1, 1, 1, 1]), 11)
        self.assertEqual(cost(SEVEN, layout, [10, 0, 0, 100, 0, 3, 1000]), 2123)

    def test_pages_met_count_and_not_turns(self):
        layout = [[2, 4], [1, 3], [5]]
        self.assertEqual(worst(CHAIN, layout), 3)
        self.assertEqual(cost(CHAIN, layout, [1, 10, 100, 1000, 10000]), 1 + 20 + 200 + 2000 + 30000)

    def test_not_the_longest_way_but_the_one_that_meets_most(self):
        tree = ((None, 1, None), 2, (None, 3, (None, 4, (None, 5, None))))
        self.assertEqual(worst(tree, [[2, 3, 4, 5], [1]]), 2)

    def test_the_empty_tree(self):
        for layout in ([], [[]]):
            self.assertEqual(worst(None, layout), 0)
            self.assertEqual(cost(None, layout, []), 0)

    def test_one_key(self):
        self.assertEqual(worst((None, 5, None), [[], [5]]), 1)
        self.assertEqual(cost((None, 5, None), [[], [5]], [7]), 7)
        self.assertEqual(cost((None, 5, None), [[5]], [0]), 0)

    def test_many(self):
        draw = random.Random(5)
        for tree, room, layout in trees_and_layouts():
            keys = helper.plain_keys(tree)
            counts = [len({helper.plain_page(layout, knot) for knot in helper.plain_way(tree, key)}) for key in keys]
            weights = [draw.choice((0, 1, 7, 10 ** 59, draw.randrange(10 ** 60))) for key in keys]
            self.assertEqual(worst(tree, layout), max(counts, default=0))
            self.assertEqual(cost(tree, layout, weights), sum(a * b for a, b in zip(weights, counts)))


class Together(unittest.TestCase):
    def check(self, room, layout):
        told = together(room, layout)
        self.assertNotIn([], told)
        self.assertEqual(sorted(key for page in told for key in page), sorted(key for page in layout for key in page))
        for page in told:
            self.assertLessEqual(len(page), room)
        for one, other in itertools.combinations(told, 2):
            self.assertGreater(len(one) + len(other), room)
        for page in layout:
            if page:
                self.assertTrue(any(set(page) <= set(wider) for wider in told), (room, layout, told))
        return told

    def test_ordinary(self):
        self.assertEqual(len(self.check(3, [[1], [2], [3]])), 1)
        self.assertEqual(len(self.check(2, [[1], [2], [3]])), 2)
        self.assertEqual(len(self.check(3, [[4, 2], [1, 3], [6]])), 2)
        self.assertEqual(len(self.check(4, [[4, 2, 6], [1, 3], [5], [7]])), 2)

    def test_edges(self):
        self.assertEqual(together(1, []), [])
        self.assertEqual(together(60, [[], []]), [])
        self.assertEqual(together(1, [[], [0], []]), [[0]])
        self.assertEqual(len(self.check(1, [[key] for key in range(60)])), 60)
        self.assertEqual(len(self.check(60, [[key] for key in range(60)])), 1)
        self.assertEqual(len(self.check(60, [list(range(60)), []])), 1)

    def test_all_small_sizes(self):
        for room in range(1, 6):
            for sizes in itertools.product(range(room + 1), repeat=4):
                layout = []
                for size in sizes:
                    start = sum(len(page) for page in layout)
                    layout.append(list(range(start, start + size)))
                self.check(room, layout)

    def test_no_way_meets_more(self):
        for tree, room, layout in trees_and_layouts():
            told = self.check(room, layout)
            self.assertIsNone(fault(tree, room, told))
            for key in helper.plain_keys(tree)[::4]:
                self.assertLessEqual(len(pages_met(tree, told, key)), len(pages_met(tree, layout, key)))
