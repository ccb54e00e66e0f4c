"""leafpages.store: points 22 and 23, and what point 3 says of keys looked up page by page."""

import copy
import itertools
import random
import unittest

import helper
from leafpages.layouts import page_turns
from leafpages.store import between, looked_up, nearest, stored

SEVEN = helper.low_tree([1, 2, 3, 4, 5, 6, 7])
CHAIN = helper.right_leaning([1, 2, 3, 4, 5])


class Reading:
    """A function read over stored pages that keeps what it was called with."""

    def __init__(self, pages):
        self.pages = pages
        self.calls = []

    def __call__(self, *handed, **named):
        self.calls.append((handed, named))
        return self.pages[handed[0]]

    def numbers(self):
        """The numbers that it was called with, where each call handed in one number alone."""
        for handed, named in self.calls:
            if [type(thing) for thing in handed] != [int] or named:
                raise AssertionError("called with something else: {} {}".format(handed, named))
        return [handed[0] for handed, named in self.calls]


class Refilled(Reading):
    """Tells one and the same list each time, filled anew."""

    def __init__(self, pages):
        super().__init__(pages)
        self.slots = []

    def __call__(self, *handed, **named):
        self.slots[:] = super().__call__(*handed, **named)
        return self.slots


def tree_at(pages, spot):
    if spot is None:
        return None
    key, left, right = pages[spot[0]][spot[1]]
    return (tree_at(pages, left), key, tree_at(pages, right))


def some_keys(tree, draw, count):
    """Keys of the tree and others, below all and above all among them."""
    around = helper.keys_around(tree)
    return sorted(set([around[0] - 1, around[-1] + 1] + draw.sample(around, min(count, len(around)))))


def trees_and_layouts():
    draw = random.Random(40)
    for tree in helper.many_trees():
        for room in (1, 2, 3, 7, 60):
            yield tree, helper.drawn_layout(tree, room, draw)
            yield tree, helper.drawn_joined_layout(tree, room, draw)


def plain_turns(tree, layout, key):
    """The pages that the way to the key opens, one after another."""
    numbers = [helper.plain_page(layout, knot) for knot in helper.plain_way_towards(tree, key)]
    return [number for number, group in itertools.groupby(numbers)]


class Stored(unittest.TestCase):
    def test_ordinary(self):
        self.assertEqual(stored(SEVEN, [[1, 3], [4, 2, 6], [7], [5]]),
                         ((1, 0), [[(1, None, None), (3, None, None)],
                                   [(4, (1, 1), (1, 2)), (2, (0, 0), (0, 1)), (6, (3, 0), (2, 0))],
                                   [(7, None, None)], [(5, None, None)]]))

    def test_the_pages_own_order_and_pages_that_are_empty(self):
        self.assertEqual(stored(((None, 1, None), 2, None), [[], [1, 2], []]),
                         ((1, 1), [[], [(1, None, None), (2, (1, 0), None)], []]))
        self.assertEqual(stored((None, 1, (None, 2, None)), [[2], [], [1]]),
                         ((2, 0), [[(2, None, None)], [], [(1, None, (0, 0))]]))

    def test_the_empty_tree(self):
        self.assertEqual(stored(None, []), (None, []))
        self.assertEqual(stored(None, [[], []]), (None, [[], []]))

    def test_one_key(self):
        self.assertEqual(stored((None, 0, None), [[0]]), ((0, 0), [[(0, None, None)]]))

    def test_many(self):
        for tree, layout in trees_and_layouts():
            told = stored(tree, layout)
            self.assertIsInstance(told, tuple)
            top, pages = told
            self.assertEqual([[slot[0] for slot in page] for page in pages], layout)
            self.assertEqual(tree_at(pages, top), tree)
            for slot in [slot for page in pages for slot in page]:
                self.assertIsInstance(slot, tuple)
                self.assertEqual(len(slot), 3)
                for spot in slot[1:]:
                    self.assertTrue(spot is None or isinstance(spot, tuple))


class LookedUp(unittest.TestCase):
    def test_ordinary(self):
        top, pages = stored(SEVEN, [[1, 3], [4, 2, 6], [7], [5]])
        for key, there, numbers in ((4, True, [1]), (6, True, [1]), (3, True, [1, 0]), (7, True, [1, 2]),
                                    (0, False, [1, 0]), (8, False, [1, 2]), (5, True, [1, 3])):
            read = Reading(pages)
            self.assertIs(looked_up(read, top, key), there)
            self.assertEqual(read.numbers(), numbers)

    def test_pages_come_again(self):
        top, pages = stored(CHAIN, [[2, 4], [1, 3], [], [5]])
        read = Reading(pages)
        self.assertIs(looked_up(read, top, 5), True)
        self.assertEqual(read.numbers(), [1, 0, 1, 0, 3])
        read = Reading(pages)
        self.assertIs(looked_up(read, top, 99), False)
        self.assertEqual(read.numbers(), [1, 0, 1, 0, 3])

    def test_nothing_is_read_behind_the_key(self):
        top, pages = stored(CHAIN, [[1], [2], [3], [4], [5]])
        read = Reading(pages)
        self.assertIs(looked_up(read, top, 2), True)
        self.assertEqual(read.numbers(), [0, 1])

    def test_the_empty_tree(self):
        for key in (-1, 0, 10 ** 59):
            read = Reading([[]])
            self.assertIs(looked_up(read, None, key), False)
            self.assertEqual(read.numbers(), [])

    def test_one_key(self):
        top, pages = stored((None, 0, None), [[], [0]])
        for key in (-1, 0, 1):
            read = Reading(pages)
            self.assertIs(looked_up(read, top, key), key == 0)
            self.assertEqual(read.numbers(), [1])

    def test_many(self):
        draw = random.Random(41)
        for tree, layout in trees_and_layouts():
            top, pages = stored(tree, layout)
            for key in some_keys(tree, draw, 12):
                for read in (Reading(pages), Refilled(pages)):
                    self.assertIs(looked_up(read, top, key), key in helper.plain_keys(tree))
                    self.assertEqual(read.numbers(), plain_turns(tree, layout, key))
                    self.assertEqual(len(read.numbers()), page_turns(tree, layout, key))

    def test_every_key_of_sixty_in_room_sixty_and_room_one(self):
        keys = list(range(0, 120, 2))
        for make in (helper.low_tree, helper.zigzag, helper.left_leaning, helper.right_leaning):
            tree = make(keys)
            for layout in ([keys], [[key] for key in keys]):
                top, pages = stored(tree, layout)
                for key in range(-1, 121):
                    read = Reading(pages)
                    self.assertIs(looked_up(read, top, key), key in keys)
                    self.assertEqual(read.numbers(), plain_turns(tree, layout, key))


class Nearest(unittest.TestCase):
    def test_ordinary(self):
        tree = helper.low_tree([10, 20, 30, 40, 50])
        top, pages = stored(tree, [[10, 30], [20, 40], [50]])
        for key, both in ((10, (10, 10)), (30, (30, 30)), (50, (50, 50)), (9, (None, 10)), (51, (50, None)),
                          (15, (10, 20)), (21, (20, 30)), (39, (30, 40)), (45, (40, 50))):
            self.assertEqual(nearest(Reading(pages), top, key), both)

    def test_keys_of_nought_and_below(self):
        top, pages = stored(helper.low_tree([-5, 0, 5]), [[0], [-5, 5]])
        self.assertEqual(nearest(Reading(pages), top, 0), (0, 0))
        self.assertEqual(nearest(Reading(pages), top, 1), (0, 5))
        self.assertEqual(nearest(Reading(pages), top, -1), (-5, 0))
        self.assertEqual(nearest(Reading(pages), top, -9), (None, -5))

    def test_the_empty_tree(self):
        read = Reading([])
        self.assertEqual(nearest(read, None, 3), (None, None))
        self.assertEqual(read.numbers(), [])

    def test_one_key(self):
        top, pages = stored((None, 0, None), [[0]])
        for key, both in ((-1, (None, 0)), (0, (0, 0)), (1, (0, None))):
            read = Reading(pages)
            self.assertEqual(nearest(read, top, key), both)
            self.assertEqual(read.numbers(), [0])

    def test_many(self):
        draw = random.Random(42)
        for tree, layout in trees_and_layouts():
            top, pages = stored(tree, layout)
            keys = helper.plain_keys(tree)
            for key in some_keys(tree, draw, 12):
                both = (max([other for other in keys if other <= key], default=None),
                        min([other for other in keys if other >= key], default=None))
                for read in (Reading(pages), Refilled(pages)):
                    told = nearest(read, top, key)
                    self.assertIsInstance(told, tuple)
                    self.assertEqual(told, both)
                    self.assertEqual(read.numbers(), plain_turns(tree, layout, key))


class Between(unittest.TestCase):
    def check(self, tree, layout, top, pages, low, high):
        expected = [key for key in helper.plain_keys(tree) if low <= key <= high]
        allowed = set(expected) | set(helper.plain_way_towards(tree, low)) | set(helper.plain_way_towards(tree, high))
        for read in (Reading(pages), Refilled(pages)):
            told = between(read, top, low, high)
            self.assertIsInstance(told, list)
            self.assertEqual(told, expected)
            numbers = read.numbers()
            self.assertEqual(len(numbers), len(set(numbers)))
            for number in numbers:
                self.assertTrue(allowed & set(layout[number]), (tree, layout, low, high, number))

    def test_ordinary(self):
        layout = [[1, 3], [4, 2, 6], [7], [5]]
        top, pages = stored(SEVEN, layout)
        for low, high, keys in ((1, 7, [1, 2, 3, 4, 5, 6, 7]), (3, 5, [3, 4, 5]), (4, 4, [4]), (-9, 2, [1, 2]),
                                (6, 99, [6, 7]), (8, 9, []), (-3, 0, []), (5, 4, []), (7, 1, []), (99, -99, [])):
            self.assertEqual(between(Reading(pages), top, low, high), keys)
            self.check(SEVEN, layout, top, pages, low, high)

    def test_pages_beside_are_not_read(self):
        layout = [[4], [2], [6], [1], [3], [5], [7]]
        top, pages = stored(SEVEN, layout)
        read = Reading(pages)
        self.assertEqual(between(read, top, 2, 4), [2, 3, 4])
        self.assertEqual(sorted(read.numbers()), [0, 1, 4])
        read = Reading(pages)
        self.assertEqual(between(read, top, 4, 6), [4, 5, 6])
        self.assertEqual(sorted(read.numbers()), [0, 2, 5])

    def test_low_or_high_not_there(self):
        tree = helper.low_tree([10, 20, 30, 40, 50, 60, 70])
        layout = [[10, 50], [40, 20], [30, 70], [], [60]]
        top, pages = stored(tree, layout)
        for low in range(5, 80, 5):
            for high in range(5, 80, 5):
                self.check(tree, layout, top, pages, low, high)

    def test_the_empty_tree(self):
        for low, high in ((0, 0), (-1, 1), (1, -1)):
            read = Reading([[], []])
            self.assertEqual(between(read, None, low, high), [])
            self.assertEqual(read.numbers(), [])

    def test_one_key(self):
        tree = (None, 0, None)
        top, pages = stored(tree, [[0]])
        for low, high in itertools.product((-1, 0, 1), repeat=2):
            self.check(tree, [[0]], top, pages, low, high)

    def test_every_pair_in_small_trees(self):
        draw = random.Random(43)
        for count in range(1, 6):
            keys = [2 * place for place in range(count)]
            for tree in helper.shapes(keys):
                layout = draw.choice((helper.drawn_layout, helper.drawn_joined_layout))(tree, draw.randrange(1, 4), draw)
                top, pages = stored(tree, layout)
                for low, high in itertools.product(range(-1, 2 * count), repeat=2):
                    self.check(tree, layout, top, pages, low, high)

    def test_many(self):
        draw = random.Random(44)
        for tree, layout in trees_and_layouts():
            top, pages = stored(tree, layout)
            around = some_keys(tree, draw, 6)
            for step in range(5):
                self.check(tree, layout, top, pages, draw.choice(around), draw.choice(around))
            self.check(tree, layout, top, pages, around[0], around[-1])
            self.check(tree, layout, top, pages, around[-1], around[0])


class Own(unittest.TestCase):
    def test_what_is_read_stays_as_it_is_and_answers_are_the_askers_own(self):
        draw = random.Random(45)
        for tree in helper.many_trees():
            layout = helper.drawn_layout(tree, 4, draw)
            top, pages = stored(tree, layout)
            kept = copy.deepcopy(pages)
            around = some_keys(tree, draw, 4)
            for ask in (lambda: looked_up(pages.__getitem__, top, around[1]),
                        lambda: nearest(pages.__getitem__, top, around[1]),
                        lambda: between(pages.__getitem__, top, around[0], around[-1])):
                first = ask()
                again = copy.deepcopy(first)
                if isinstance(first, list):
                    first.append(0)
                    first.reverse()
                self.assertEqual(ask(), again)
                self.assertEqual(pages, kept)

    def test_pages_changed_behind_a_call_are_read_as_they_are_then(self):
        top, pages = stored((None, 1, (None, 2, None)), [[1], [2]])
        read = pages.__getitem__
        self.assertEqual(between(read, top, 0, 9), [1, 2])
        self.assertIs(looked_up(read, top, 2), True)
        pages[1][0] = (3, None, None)
        self.assertEqual(between(read, top, 0, 9), [1, 3])
        self.assertIs(looked_up(read, top, 2), False)
        self.assertEqual(nearest(read, top, 2), (1, 3))
