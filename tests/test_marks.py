"""leafpages.marks: points 13 and 14, and what point 3 says of the layout by marks."""

import itertools
import random
import unittest

import helper
from leafpages.layouts import fault, first_parted, worst
from leafpages.marks import by_marks, marks, shows_worst

SEVEN = helper.low_tree([1, 2, 3, 4, 5, 6, 7])
ROOMS = (1, 2, 3, 4, 6, 11, 30, 59, 60)


class Marks(unittest.TestCase):
    def test_ordinary(self):
        self.assertEqual(marks(SEVEN, 3), [(1, 1, 1), (2, 1, 3), (3, 1, 1), (4, 2, 1), (5, 1, 1), (6, 1, 3), (7, 1, 1)])
        self.assertEqual(marks(SEVEN, 2), [(1, 1, 1), (2, 2, 1), (3, 1, 1), (4, 3, 1), (5, 1, 1), (6, 2, 1), (7, 1, 1)])
        self.assertEqual(marks(SEVEN, 7)[3], (4, 1, 7))
        self.assertEqual(marks(SEVEN, 6)[3], (4, 2, 1))

    def test_only_kids_of_the_greatest_level_count(self):
        tree = (((None, 1, None), 2, (None, 3, None)), 4, (None, 5, None))
        self.assertEqual(marks(tree, 2), [(1, 1, 1), (2, 2, 1), (3, 1, 1), (4, 2, 2), (5, 1, 1)])
        self.assertEqual(by_marks(tree, 2), [[1], [2, 4], [3], [5]])

    def test_the_empty_tree(self):
        for room in ROOMS:
            self.assertEqual(marks(None, room), [])
            self.assertEqual(by_marks(None, room), [])

    def test_one_key(self):
        for room in ROOMS:
            self.assertEqual(marks((None, 0, None), room), [(0, 1, 1)])
            self.assertEqual(by_marks((None, 0, None), room), [[0]])

    def test_room_one_and_room_sixty(self):
        keys = list(range(-30, 30))
        for make in (helper.low_tree, helper.zigzag, helper.left_leaning, helper.right_leaning):
            tree = make(keys)
            self.assertEqual(by_marks(tree, 60), [keys])
            self.assertEqual(by_marks(tree, 1), [[key] for key in keys])
            self.assertEqual({told[0]: told[1:] for told in marks(tree, 60)}[tree[1]], (1, 60))
            self.assertEqual({told[2] for told in marks(tree, 1)}, {1})

    def test_a_chain(self):
        tree = helper.right_leaning([1, 2, 3, 4, 5])
        self.assertEqual(marks(tree, 2), [(1, 3, 1), (2, 2, 2), (3, 2, 1), (4, 1, 2), (5, 1, 1)])
        self.assertEqual(by_marks(tree, 2), [[1], [2, 3], [4, 5]])

    def test_many_trees(self):
        for tree in helper.many_trees():
            for room in ROOMS:
                told = helper.plain_marks(tree, room)
                keys = helper.plain_keys(tree)
                self.assertEqual(marks(tree, room), [(key,) + told[key] for key in keys])

    def test_kinds(self):
        table = marks(SEVEN, 3)
        self.assertIsInstance(table, list)
        for row in table:
            self.assertIsInstance(row, tuple)
            self.assertEqual([type(number) for number in row], [int, int, int])


class ByMarks(unittest.TestCase):
    def test_ordinary(self):
        self.assertEqual(by_marks(SEVEN, 3), [[1, 2, 3], [4], [5, 6, 7]])
        self.assertEqual(by_marks(SEVEN, 2), [[1], [2], [3], [4], [5], [6], [7]])
        self.assertEqual(by_marks(SEVEN, 7), [[1, 2, 3, 4, 5, 6, 7]])

    def test_joined_right_and_as_bad_as_the_level_of_the_top(self):
        for tree in helper.many_trees():
            for room in ROOMS:
                layout = by_marks(tree, room)
                self.assertIsNone(fault(tree, room, layout))
                self.assertIsNone(first_parted(tree, layout))
                level = 0 if tree is None else helper.plain_marks(tree, room)[tree[1]][0]
                self.assertEqual(helper.plain_worst(tree, layout), level)
                self.assertEqual(worst(tree, layout), level)

    def test_just_the_knots_tied_and_sorted(self):
        for tree in helper.many_trees():
            for room in ROOMS:
                pages = helper.pages_by_ties(helper.plain_keys(tree), helper.plain_ties(tree, room))
                self.assertEqual(by_marks(tree, room), [list(page) for page in pages])

    def test_every_small_tree_every_joined_layout(self):
        for count in range(8):
            for tree in helper.shapes(list(range(count))):
                least = least_worsts(tree, count + 1)
                for room in range(1, count + 2):
                    layout = by_marks(tree, room)
                    self.assertIsNone(first_parted(tree, layout))
                    self.assertEqual(helper.plain_worst(tree, layout), least[room], (tree, room))

    def test_drawn_joined_layouts_of_larger_trees(self):
        draw = random.Random(6)
        for tree in helper.many_trees():
            for room in (2, 3, 5, 9, 20):
                layout = helper.drawn_joined_layout(tree, room, draw)
                self.assertGreaterEqual(helper.plain_worst(tree, layout), worst(tree, by_marks(tree, room)))


def least_worsts(tree, most_room):
    """For each room the least worst of all joined layouts that are right for it."""
    least = {room: len(helper.plain_keys(tree)) for room in range(1, most_room + 1)}
    for layout in helper.joined_layouts(tree):
        size = max([len(page) for page in layout], default=0)
        number = helper.plain_worst(tree, layout)
        for room in range(max(size, 1), most_room + 1):
            least[room] = min(least[room], number)
    return least


class ShowsWorst(unittest.TestCase):
    def test_marks_show_the_level_of_the_top_and_no_more(self):
        for tree in helper.many_trees():
            for room in ROOMS:
                level = 0 if tree is None else helper.plain_marks(tree, room)[tree[1]][0]
                table = [(key,) + told for key, told in sorted(helper.plain_marks(tree, room).items())]
                for number in (level, level - 1, 0, -1, -10 ** 59):
                    self.assertIs(shows_worst(tree, room, table, number), True)
                for number in (level + 1, level + 2, 10 ** 59):
                    self.assertIs(shows_worst(tree, room, table, number), False)

    def test_the_empty_tree(self):
        for room in (1, 60):
            self.assertIs(shows_worst(None, room, [], 0), True)
            self.assertIs(shows_worst(None, room, [], -1), True)
            self.assertIs(shows_worst(None, room, [], 1), False)
            self.assertIs(shows_worst(None, room, [(0, 1, 1)], 0), False)

    def test_one_key(self):
        tree = (None, 5, None)
        for table in ([(5, 1, 1)], [(5, 1, 0)], [(5, 1, -3)]):
            self.assertIs(shows_worst(tree, 1, table, 1), True)
            self.assertIs(shows_worst(tree, 1, table, 2), False)
        for table in ([(5, 0, 99)], [(5, 0, 0)]):
            self.assertIs(shows_worst(tree, 1, table, 0), True)
            self.assertIs(shows_worst(tree, 1, table, 1), False)
        self.assertIs(shows_worst(tree, 1, [(5, -2, 7)], -2), True)
        self.assertIs(shows_worst(tree, 1, [(5, -2, 7)], -1), False)
        for table in ([(5, 1, 2)], [(5, 2, 0)], [(5, 2, -9)]):
            for number in (2, 1, 0, -1):
                self.assertIs(shows_worst(tree, 60, table, number), False)

    def test_rows_left_out_twice_exchanged_or_strange(self):
        table = marks(SEVEN, 3)
        self.assertIs(shows_worst(SEVEN, 3, table, 2), True)
        for place in range(7):
            for number in (2, 0, -1):
                self.assertIs(shows_worst(SEVEN, 3, table[:place] + table[place + 1:], number), False)
                self.assertIs(shows_worst(SEVEN, 3, table[:place] + [table[place]] + table[place:], number), False)
                self.assertIs(shows_worst(SEVEN, 3, table + [table[place]], number), False)
                self.assertIs(shows_worst(SEVEN, 3, table[:place] + [(9, 1, 1)] + table[place + 1:], number), False)
        for place in range(6):
            swapped = table[:place] + [table[place + 1], table[place]] + table[place + 2:]
            self.assertIs(shows_worst(SEVEN, 3, swapped, 2), False)
        self.assertIs(shows_worst(SEVEN, 3, table[::-1], 2), False)
        self.assertIs(shows_worst(SEVEN, 3, [(0, 1, 1)] + table, 2), False)
        self.assertIs(shows_worst(SEVEN, 3, table + [(8, 1, 1)], 2), False)
        self.assertIs(shows_worst(SEVEN, 3, [], 0), False)

    def test_a_mark_too_great(self):
        for tree in helper.many_trees():
            for room in (1, 3, 8, 60):
                table = marks(tree, room)
                for place, (key, level, size) in enumerate(table):
                    for row in ((key, level, size + 1), (key, level + 1, size), (key, level + 1, -5)):
                        wrong = table[:place] + [row] + table[place + 1:]
                        self.assertIs(shows_worst(tree, room, wrong, 0), False)

    def test_a_lesser_mark_that_leads_to_a_lesser_top(self):
        table = marks(SEVEN, 3)
        lower = table[:1] + [(2, 1, 1)] + table[2:]
        self.assertIs(shows_worst(SEVEN, 3, lower, 2), True)
        lower = [(1, 1, 1), (2, 1, 1), (3, 1, 1), (4, 1, 3), (5, 1, 1), (6, 1, 1), (7, 1, 1)]
        self.assertIs(shows_worst(SEVEN, 3, lower, 1), True)
        self.assertIs(shows_worst(SEVEN, 3, lower, 2), False)
        lower[3] = (4, 2, 1)
        self.assertIs(shows_worst(SEVEN, 3, lower, 2), False)
        self.assertIs(shows_worst(SEVEN, 2, lower, 2), True)

    def test_told_sizes_beyond_the_room(self):
        tree = (None, 1, (None, 2, None))
        self.assertIs(shows_worst(tree, 2, [(1, 1, 1), (2, 0, 50)], 1), True)
        self.assertIs(shows_worst(tree, 2, [(1, 1, 2), (2, 0, 50)], 1), False)
        self.assertIs(shows_worst(tree, 2, [(1, 0, -8), (2, 0, -9)], 0), True)
        self.assertIs(shows_worst(tree, 2, [(1, 0, -7), (2, 0, -9)], 0), False)

    def test_all_small_tables_by_the_words(self):
        rows = list(itertools.product(range(-1, 4), range(-1, 4)))
        for tree in helper.shapes([0, 1, 2]):
            for told in itertools.product(rows, repeat=3):
                table = [(key,) + pair for key, pair in enumerate(told)]
                for number in (0, 2):
                    self.assertIs(shows_worst(tree, 2, table, number), plain_shows(tree, 2, table, number))

    def test_what_is_shown_no_joined_layout_undercuts(self):
        draw = random.Random(7)
        shown = 0
        for tree in helper.shapes([0, 1, 2, 3, 4]):
            least = least_worsts(tree, 5)
            for step in range(120):
                room = draw.randrange(1, 6)
                table = [(key, draw.randrange(level - 1, level + 1), draw.randrange(size - 1, size + 1))
                         for key, level, size in marks(tree, room)]
                for number in range(6):
                    if shows_worst(tree, room, table, number):
                        shown += number > 0
                        self.assertGreaterEqual(least[room], number)
        self.assertGreater(shown, 100)


def plain_shows(tree, room, table, number):
    told = {key: (level, size) for key, level, size in table}
    for key, kids in helper.plain_kids(tree).items():
        if not told[key] <= helper.plain_made(told, kids, room):
            return False
    return told[tree[1]][0] >= number
