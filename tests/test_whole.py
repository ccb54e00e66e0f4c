"""Point 3 over the whole program: what its parts tell of one tree holds together."""

import itertools
import random
import unittest

import helper
from leafpages.belows import from_below, holds, led, number_of
from leafpages.desk import Desk
from leafpages.halves import by_halves, cut, most_pieces, pieces
from leafpages.layouts import cost, fault, first_parted, pages_met, worst
from leafpages.marks import by_marks, marks, shows_worst
from leafpages.rooms import least_room
from leafpages.shelf import Shelf, ties
from leafpages.store import between, looked_up, nearest, stored
from leafpages.texts import read_layout, read_tree, show_layout, show_tree
from leafpages.trees import height, keys_of, tree_of
from leafpages.weights import cheapest, shows_cost


def small_trees(most):
    for count in range(1, most + 1):
        for tree in helper.shapes(list(range(count))):
            yield tree, list(range(count))


def top_level(tree, room):
    return {key: level for key, level, size in marks(tree, room)}[tree[1]]


def largest_page(layout):
    return max(len(page) for page in layout)


class SmallTrees(unittest.TestCase):
    def test_the_worst_by_marks_is_the_level_of_the_top(self):
        for tree, keys in small_trees(7):
            for room in range(1, len(keys) + 2):
                layout = by_marks(tree, room)
                self.assertIsNone(fault(tree, room, layout))
                self.assertIsNone(first_parted(tree, layout))
                self.assertEqual(worst(tree, layout), top_level(tree, room))
                self.assertIs(shows_worst(tree, room, marks(tree, room), worst(tree, layout)), True)

    def test_no_joined_layout_has_a_lesser_worst_or_a_lesser_cost(self):
        draw = random.Random(70)
        for tree, keys in small_trees(6):
            weights = [draw.choice((0, 1, 3, 10 ** 59)) for key in keys]
            levels = {room: top_level(tree, room) for room in range(1, len(keys) + 1)}
            told = {room: cheapest(tree, room, weights) for room in levels}
            for room in levels:
                self.assertIs(shows_cost(tree, room, weights, told[room][2], told[room][0]), True)
                self.assertEqual(cost(tree, told[room][1], weights), told[room][0])
            for layout in helper.joined_layouts(tree):
                met = helper.plain_counts(tree, layout)
                for room in range(largest_page(layout), len(keys) + 1):
                    self.assertGreaterEqual(max(met.values()), levels[room])
                    self.assertGreaterEqual(sum(weights[key] * met[key] for key in keys), told[room][0])

    def test_the_number_from_below_is_no_greater_than_the_worst_of_any_layout(self):
        for tree, keys in small_trees(5):
            papers = {room: from_below(tree, room) for room in range(1, len(keys) + 1)}
            for room, paper in papers.items():
                self.assertIs(holds(tree, room, paper), True)
            for layout in helper.partitions(keys):
                number = worst(tree, layout)
                for room in range(largest_page(layout), len(keys) + 1):
                    self.assertLessEqual(number_of(papers[room]), number)
                    reached = pages_met(tree, layout, led(tree, layout, papers[room]))
                    self.assertGreaterEqual(len(reached), number_of(papers[room]))

    def test_the_order_by_halves_cut_meets_at_most_twice_the_most_pieces(self):
        for tree, keys in small_trees(6):
            order = by_halves(tree)
            for size in range(1, len(keys) + 2):
                most = most_pieces(height(tree), size)
                self.assertLessEqual(worst(tree, pieces(tree, size)), most)
                for ahead in range(size):
                    layout = cut(order, size, ahead)
                    self.assertIsNone(fault(tree, size, layout))
                    self.assertLessEqual(worst(tree, layout), 2 * most)

    def test_the_least_room_for_the_level_of_the_top_is_no_greater_than_the_room(self):
        for tree, keys in small_trees(6):
            for room in range(1, len(keys) + 2):
                least = least_room(tree, top_level(tree, room))[0]
                self.assertLessEqual(least, room)
                self.assertEqual(top_level(tree, least), top_level(tree, room))

    def test_the_numbers_stand_in_order(self):
        for tree, keys in small_trees(6):
            for room in range(1, len(keys) + 2):
                low = number_of(from_below(tree, room))
                self.assertLessEqual(low, top_level(tree, room))
                self.assertLessEqual(low, worst(tree, cut(by_halves(tree), room, 0)))
                self.assertLessEqual(top_level(tree, room), height(tree))

    def test_keys_are_found_in_the_layout_as_in_the_tree(self):
        for tree, keys in small_trees(5):
            for layout in (by_marks(tree, 2), cut(by_halves(tree), 2, 1), cheapest(tree, 2, keys)[1]):
                top, pages = stored(tree, layout)
                for key in range(-1, len(keys) + 1):
                    self.assertIs(looked_up(pages.__getitem__, top, key), key in keys)
                for low, high in itertools.product(range(-1, len(keys) + 1), repeat=2):
                    self.assertEqual(between(pages.__getitem__, top, low, high), keys[max(low, 0):max(high + 1, 0)])
                self.assertEqual(nearest(pages.__getitem__, top, -1), (None, 0))

    def test_texts_of_all_that_is_told(self):
        for tree, keys in small_trees(6):
            self.assertEqual(read_tree(show_tree(tree)), tree)
            for layout in (by_marks(tree, 3), cut(by_halves(tree), 3, 2), least_room(tree, 2)[1]):
                self.assertEqual(read_layout(show_layout(layout)), layout)


class BehindDeeds(unittest.TestCase):
    def test_all_is_as_of_the_tree_made_anew(self):
        draw = random.Random(71)
        shelf, desk = Shelf(4), Desk(4)
        for step in range(150):
            key = draw.randrange(-20, 20)
            ahead = ties(shelf.tree(), 4)
            deed = helper.put_or_take(shelf, key)
            self.assertEqual(desk.say(f"{deed} {key}"), "ok")
            anew = tree_of(helper.outline(shelf.tree()))
            self.assertEqual(shelf.tree(), anew)
            self.assertEqual(read_tree(desk.say("tree")), anew)
            self.assertEqual(shelf.table(), marks(anew, 4))
            self.assertEqual(shelf.layout(), by_marks(anew, 4))
            self.assertEqual(read_layout(desk.say("layout")), shelf.layout())
            self.assertEqual(shelf.worst(), worst(anew, by_marks(anew, 4)))
            come, gone = shelf.last()
            self.assertEqual(ties(anew, 4), sorted([tie for tie in ahead if tie not in gone] + come))
            layout = desk.say("layout")
            self.assertEqual(desk.say(f"judge 4 {layout}"), f"right joined {shelf.worst()}")
            if anew is not None:
                number = shelf.worst()
                self.assertLessEqual(int(desk.say(f"least {number}")), 4)
                self.assertLessEqual(int(desk.say("below 4")), number)

    def test_a_shelf_behind_deeds_is_like_one_that_had_the_same_tree_at_once(self):
        draw = random.Random(72)
        shelf = Shelf(3)
        for step in range(100):
            helper.put_or_take(shelf, draw.randrange(30))
            other = Shelf(3)
            for made in helper.outline(shelf.tree()):
                other.put(made)
            self.assertEqual((shelf.tree(), shelf.table(), shelf.layout(), shelf.worst()),
                             (other.tree(), other.table(), other.layout(), other.worst()))
            self.assertEqual([shelf.has(made) for made in range(30)],
                             [made in keys_of(shelf.tree()) for made in range(30)])
