"""leafpages.rooms: point 26."""

import unittest

import helper
from leafpages.errors import LeafError, NoRoom
from leafpages.layouts import fault, first_parted, worst
from leafpages.marks import by_marks, marks, shows_worst
from leafpages.rooms import least_room

SEVEN = helper.low_tree([1, 2, 3, 4, 5, 6, 7])
SIXTY = list(range(-30, 30))


def plain_layout(tree, room):
    pages = helper.pages_by_ties(helper.plain_keys(tree), helper.plain_ties(tree, room))
    return [list(page) for page in pages]


def plain_least(tree, number):
    """By the layouts for every room up to one that takes all keys, from the greatest one down."""
    rooms = range(len(helper.plain_keys(tree)) + 1, 0, -1)
    return min(room for room in rooms if helper.plain_worst(tree, plain_layout(tree, room)) <= number)


def plain_height(tree):
    return max([len(helper.plain_way(tree, key)) for key in helper.plain_keys(tree)], default=0)


class LeastRoom(unittest.TestCase):
    def check(self, tree, number):
        told = least_room(tree, number)
        self.assertIsInstance(told, tuple)
        room, layout, table = told
        self.assertIs(type(room), int)
        self.assertEqual(layout, plain_layout(tree, room))
        self.assertLessEqual(helper.plain_worst(tree, layout), number)
        self.assertIsNone(fault(tree, room, layout))
        self.assertIsNone(first_parted(tree, layout))
        if room == 1:
            self.assertIsNone(table)
        else:
            self.assertIs(shows_worst(tree, room - 1, table, number + 1), True)
            self.assertGreater(helper.plain_worst(tree, plain_layout(tree, room - 1)), number)
        return room

    def test_ordinary(self):
        self.assertEqual(least_room(SEVEN, 2), (3, [[1, 2, 3], [4], [5, 6, 7]], marks(SEVEN, 2)))
        self.assertEqual(least_room(SEVEN, 1), (7, [[1, 2, 3, 4, 5, 6, 7]], marks(SEVEN, 6)))
        self.assertEqual(least_room(SEVEN, 3), (1, [[1], [2], [3], [4], [5], [6], [7]], None))

    def test_a_chain(self):
        tree = helper.right_leaning(list(range(12)))
        self.assertEqual([least_room(tree, number)[0] for number in range(1, 14)],
                         [12, 6, 4, 3, 3, 2, 2, 2, 2, 2, 2, 1, 1])

    def test_many_trees_many_numbers(self):
        for tree in helper.many_trees():
            top = plain_height(tree)
            for number in sorted({1, 2, 3, 4, 6, top // 2, top - 1, top, top + 1} & set(range(1, 62))):
                self.check(tree, number)

    def test_all_small_trees(self):
        for count in range(7):
            for tree in helper.shapes(list(range(count))):
                for number in range(1, count + 2):
                    self.assertEqual(self.check(tree, number), plain_least(tree, number))

    def test_the_number_one(self):
        for tree in helper.many_trees():
            keys = helper.plain_keys(tree)
            self.assertEqual(self.check(tree, 1), max(len(keys), 1))

    def test_the_height_and_more_than_the_height(self):
        for tree in helper.many_trees():
            top = plain_height(tree)
            pages = [[key] for key in helper.plain_keys(tree)]
            for number in (max(top, 1), top + 1, top + 50, 10 ** 60 - 1):
                self.assertEqual(least_room(tree, number), (1, pages, None))
            if top > 1:
                self.assertGreater(self.check(tree, top - 1), 1)

    def test_the_empty_tree_and_one_key(self):
        for number in (1, 2, 60, 10 ** 59):
            self.assertEqual(least_room(None, number), (1, [], None))
            self.assertEqual(least_room((None, 0, None), number), (1, [[0]], None))

    def test_two_keys(self):
        tree = (None, -1, (None, 0, None))
        self.assertEqual(least_room(tree, 1), (2, [[-1, 0]], marks(tree, 1)))
        self.assertEqual(least_room(tree, 2), (1, [[-1], [0]], None))

    def test_sixty_keys(self):
        for make in (helper.low_tree, helper.left_leaning, helper.right_leaning, helper.zigzag):
            tree = make(SIXTY)
            self.assertEqual(least_room(tree, 1), (60, [SIXTY], marks(tree, 59)))
        chain = helper.left_leaning(SIXTY)
        self.assertEqual([least_room(chain, number)[0] for number in (2, 3, 30, 59, 60)], [30, 20, 2, 2, 1])

    def test_somewhat_more_keys_are_not_refused(self):
        keys = list(range(64))
        self.assertEqual(least_room(helper.low_tree(keys), 1)[:2], (64, [keys]))

    def test_more_room_is_never_worse(self):
        for tree in helper.many_trees():
            numbers = [worst(tree, by_marks(tree, room)) for room in range(1, 61)]
            self.assertEqual(numbers, sorted(numbers, reverse=True))
            self.assertEqual(numbers[-1], min(len(helper.plain_keys(tree)), 1))
            self.assertEqual(numbers[0], plain_height(tree))

    def test_a_greater_number_never_asks_for_more_room(self):
        for tree in helper.many_trees():
            rooms = [least_room(tree, number)[0] for number in range(1, 12)]
            self.assertEqual(rooms, sorted(rooms, reverse=True))

    def test_the_least_room_for_what_a_room_comes_to_is_no_greater(self):
        for tree in helper.many_trees():
            if tree is not None:
                for room in (1, 2, 3, 5, 9, 30, 60):
                    level = helper.plain_marks(tree, room)[tree[1]][0]
                    self.assertLessEqual(least_room(tree, level)[0], room)


class Refusals(unittest.TestCase):
    def test_numbers_below_one(self):
        for tree in (None, (None, 0, None), SEVEN, helper.low_tree(SIXTY)):
            for number in (0, -1, -60, -10 ** 60 + 1):
                with self.assertRaises(LeafError) as caught:
                    least_room(tree, number)
                self.assertIs(type(caught.exception), NoRoom)
                self.assertIsInstance(caught.exception, ValueError)
