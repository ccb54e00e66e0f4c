"""leafpages.trees: points 2 and 4 to 7."""

import itertools
import random
import unittest

import helper
from leafpages.errors import Full, NoTree, NotThere, There
from leafpages.trees import (below, height, is_tree, keys_of, mirrored, put, taken, tree_of, up_of, way_to)

SMALL = ((None, 1, None), 2, ((None, 3, None), 5, (None, 8, None)))


class IsTree(unittest.TestCase):
    def test_trees_of_many_shapes(self):
        for tree in helper.many_trees():
            self.assertIs(is_tree(tree), True)

    def test_all_small_shapes(self):
        for count in range(6):
            for tree in helper.shapes(list(range(-2, count - 2))):
                self.assertIs(is_tree(tree), True)

    def test_edges(self):
        self.assertIs(is_tree(None), True)
        self.assertIs(is_tree((None, 0, None)), True)
        self.assertIs(is_tree((None, -10 ** 60 + 1, (None, 10 ** 60 - 1, None))), True)

    def test_sixty_keys_and_more(self):
        for make in (helper.low_tree, helper.left_leaning, helper.right_leaning, helper.zigzag):
            self.assertIs(is_tree(make(list(range(60)))), True)
            self.assertIs(is_tree(make(list(range(61)))), False)
            self.assertIs(is_tree(make(list(range(68)))), False)
        self.assertIs(is_tree(helper.low_tree(list(range(300)))), False)

    def test_things_of_other_kinds(self):
        for thing in (0, 1, -7, 10 ** 59, "", "x", "(. 1 .)", True, False, [], [None, 1, None], {}, {1: None}, (),
                      (None,), (1,), (None, 1), (1, 2), (None, 1, None, None), ((), 1, ()), [(None, 1, None)],
                      ((None, 1, None),), {"left": None, "key": 1, "right": None}, (None, None, None), "abc",
                      {0: None, 1: 1, 2: None}):
            self.assertIs(is_tree(thing), False, thing)

    def test_keys_of_other_kinds(self):
        for key in (True, False, None, "1", "", [], [1], (), (1,), {}, {1: 1}):
            self.assertIs(is_tree((None, key, None)), False, key)
            self.assertIs(is_tree(((None, key, None), 5, None)), False, key)
            self.assertIs(is_tree((None, -5, (None, key, None))), False, key)
            self.assertIs(is_tree(((None, -5, None), key, (None, 5, None))), False, key)

    def test_sides_of_other_kinds(self):
        for side in (0, 1, True, False, "", "x", [], [None, 1, None], {}, (), (None, 1), (None, 1, None, None),
                     (1, 1, 1), ([], 1, None), (None, 1, [])):
            self.assertIs(is_tree((side, 5, None)), False, side)
            self.assertIs(is_tree((None, -5, side)), False, side)
            self.assertIs(is_tree(((None, 3, side), 9, (None, 10, None))), False, side)

    def test_keys_out_of_order(self):
        for tree in (((None, 2, None), 1, None), (None, 1, (None, 0, None)), ((None, 1, (None, 3, None)), 2, None),
                     (None, 2, ((None, 1, None), 3, None)), ((None, 0, (None, 9, None)), 5, (None, 10, None)),
                     ((None, 1, (None, 4, ((None, 2, None), 3, (None, 7, None)))), 6, None)):
            self.assertIs(is_tree(tree), False, tree)

    def test_a_key_twice(self):
        for tree in (((None, 1, None), 1, None), (None, 1, (None, 1, None)), ((None, 1, (None, 2, None)), 2, None),
                     (None, 2, ((None, 2, None), 3, None)), ((None, 1, None), 2, ((None, 1, None), 3, None))):
            self.assertIs(is_tree(tree), False, tree)

    def test_every_arrangement_of_three_keys(self):
        for low, top, high in itertools.product(range(-1, 3), repeat=3):
            self.assertIs(is_tree(((None, low, None), top, (None, high, None))), low < top < high)

    def test_things_far_within_one_another(self):
        thing = None
        nested = []
        for step in range(69):
            thing = (thing, 1, thing)
            nested = [nested]
        self.assertIs(is_tree(thing), False)
        self.assertIs(is_tree(nested), False)
        self.assertIs(is_tree((nested, 1, None)), False)
        thing = {}
        for step in range(69):
            thing = (thing, -step, None)
        self.assertIs(is_tree(thing), False)


class TreeOf(unittest.TestCase):
    def test_ordinary(self):
        self.assertEqual(tree_of([2, 1, 5, 3, 8]), SMALL)
        self.assertEqual(tree_of([1, 2, 3]), (None, 1, (None, 2, (None, 3, None))))
        self.assertEqual(tree_of([3, 2, 1]), (((None, 1, None), 2, None), 3, None))
        self.assertEqual(tree_of([0, -5, -2, 4]), ((None, -5, (None, -2, None)), 0, (None, 4, None)))

    def test_edges(self):
        self.assertIsNone(tree_of([]))
        self.assertEqual(tree_of([0]), (None, 0, None))
        self.assertEqual(tree_of(list(range(60))), helper.right_leaning(list(range(60))))
        self.assertEqual(tree_of(list(range(60))[::-1]), helper.left_leaning(list(range(60))))

    def test_nothing_is_refused_for_somewhat_more_keys(self):
        self.assertEqual(tree_of(list(range(64))), helper.right_leaning(list(range(64))))

    def test_as_put_one_behind_the_other(self):
        draw = random.Random(2)
        for count in (0, 1, 2, 5, 17, 40, 60):
            keys = helper.drawn_keys(count, draw)
            draw.shuffle(keys)
            tree = None
            for key in keys:
                tree = put(tree, key)
            self.assertEqual(tree_of(keys), tree)
            self.assertIs(is_tree(tree), True)
            self.assertEqual(helper.plain_keys(tree), sorted(keys))
            order = {key: place for place, key in enumerate(keys)}
            for kid, up in helper.plain_ups(tree).items():
                self.assertTrue(up is None or order[up] < order[kid])

    def test_two_alike(self):
        for keys in ([1, 1], [0, 0], [1, 2, 1], [3, -3, 4, -3], [10 ** 59, 5, 10 ** 59], [5, 1, 2, 3, 4, 5],
                     list(range(59)) + [30], list(range(60)) + [0]):
            with self.assertRaises(NoTree):
                tree_of(keys)


class Asked(unittest.TestCase):
    def test_small(self):
        self.assertEqual(keys_of(SMALL), [1, 2, 3, 5, 8])
        self.assertEqual(way_to(SMALL, 3), [2, 5, 3])
        self.assertEqual(way_to(SMALL, 2), [2])
        self.assertEqual(way_to(SMALL, 4), [2, 5, 3])
        self.assertEqual(way_to(SMALL, 0), [2, 1])
        self.assertEqual(way_to(SMALL, 99), [2, 5, 8])
        self.assertEqual(height(SMALL), 3)
        self.assertEqual(up_of(SMALL, 3), 5)
        self.assertEqual(up_of(SMALL, 5), 2)
        self.assertIsNone(up_of(SMALL, 2))
        self.assertEqual(below(SMALL, 2), [1, 3, 5, 8])
        self.assertEqual(below(SMALL, 5), [3, 8])
        self.assertEqual(below(SMALL, 8), [])

    def test_the_empty_tree(self):
        self.assertEqual(keys_of(None), [])
        self.assertEqual(way_to(None, 0), [])
        self.assertEqual(way_to(None, 7), [])
        self.assertEqual(height(None), 0)
        self.assertIsNone(mirrored(None))

    def test_one_key(self):
        tree = (None, 0, None)
        self.assertEqual(keys_of(tree), [0])
        for key in (-1, 0, 1):
            self.assertEqual(way_to(tree, key), [0])
        self.assertEqual(height(tree), 1)
        self.assertIsNone(up_of(tree, 0))
        self.assertEqual(below(tree, 0), [])

    def test_an_up_of_nought(self):
        self.assertEqual(up_of((None, 0, (None, 4, None)), 4), 0)
        self.assertEqual(up_of(((None, -4, None), 0, None), -4), 0)

    def test_heights(self):
        keys = list(range(60))
        self.assertEqual(height(helper.low_tree(keys)), 6)
        for make in (helper.left_leaning, helper.right_leaning, helper.zigzag):
            self.assertEqual(height(make(keys)), 60)
        self.assertEqual(height(((None, 1, (None, 2, None)), 3, (None, 4, None))), 3)

    def test_many_trees(self):
        for tree in helper.many_trees():
            keys = helper.plain_keys(tree)
            self.assertEqual(keys_of(tree), keys)
            ups = helper.plain_ups(tree)
            ways = {key: helper.plain_way(tree, key) for key in keys}
            self.assertEqual(height(tree), max([len(way) for way in ways.values()], default=0))
            for key in keys:
                self.assertEqual(way_to(tree, key), ways[key])
                self.assertEqual(up_of(tree, key), ups[key])
                self.assertEqual(below(tree, key), [other for other in keys if key in ways[other][:-1]])

    def test_ways_to_keys_that_are_not_there(self):
        for tree in helper.many_trees():
            for key in helper.keys_around(tree):
                if key not in helper.plain_keys(tree):
                    with_it = put(tree, key) if len(helper.plain_keys(tree)) < 60 else None
                    way = way_to(tree, key)
                    if with_it is not None:
                        self.assertEqual(way + [key], helper.plain_way(with_it, key))
                    for knot, after in zip(way, way[1:]):
                        self.assertEqual(after < knot, key < knot)
                        self.assertEqual(helper.plain_ups(tree)[after], knot)
                    if way:
                        self.assertIsNone(side_of(tree, way[-1], key))


def side_of(tree, knot, key):
    found = {told[0]: told for told in helper.knots(tree)}[knot]
    return found[1] if key < knot else found[2]


class Put(unittest.TestCase):
    def test_ordinary(self):
        self.assertEqual(put(None, 4), (None, 4, None))
        self.assertEqual(put(SMALL, 4), ((None, 1, None), 2, ((None, 3, (None, 4, None)), 5, (None, 8, None))))
        self.assertEqual(put(SMALL, 0), (((None, 0, None), 1, None), 2, ((None, 3, None), 5, (None, 8, None))))
        self.assertEqual(put(SMALL, 9), ((None, 1, None), 2, ((None, 3, None), 5, (None, 8, (None, 9, None)))))

    def test_it_comes_as_a_leaf_and_the_rest_stays(self):
        for tree in helper.many_trees():
            keys = helper.plain_keys(tree)
            if len(keys) < 60:
                for key in helper.keys_around(tree):
                    if key not in keys:
                        told = put(tree, key)
                        self.assertIs(is_tree(told), True)
                        ups = helper.plain_ups(told)
                        self.assertEqual(helper.plain_kids(told)[key], [])
                        ups.pop(key)
                        self.assertEqual(ups, helper.plain_ups(tree))

    def test_there(self):
        for tree in helper.many_trees():
            for key in helper.plain_keys(tree):
                with self.assertRaises(There):
                    put(tree, key)

    def test_full(self):
        for make in (helper.low_tree, helper.left_leaning, helper.right_leaning, helper.zigzag):
            tree = make(list(range(0, 118, 2)))
            fullest = put(tree, 57)
            self.assertEqual(len(helper.plain_keys(fullest)), 60)
            for key in (-1, 1, 59, 200):
                with self.assertRaises(Full):
                    put(fullest, key)

    def test_there_goes_ahead_of_full(self):
        tree = helper.low_tree(list(range(60)))
        for key in (0, 30, 59):
            with self.assertRaises(There):
                put(tree, key)


class Taken(unittest.TestCase):
    def test_without_kids(self):
        self.assertIsNone(taken((None, 4, None), 4))
        self.assertEqual(taken(SMALL, 1), (None, 2, ((None, 3, None), 5, (None, 8, None))))

    def test_with_one_side(self):
        tree = ((None, 1, (None, 2, None)), 5, ((None, 7, None), 9, None))
        self.assertEqual(taken(tree, 1), ((None, 2, None), 5, ((None, 7, None), 9, None)))
        self.assertEqual(taken(tree, 9), ((None, 1, (None, 2, None)), 5, (None, 7, None)))

    def test_with_both_sides(self):
        self.assertEqual(taken(SMALL, 2), ((None, 1, None), 3, (None, 5, (None, 8, None))))
        self.assertEqual(taken(SMALL, 5), ((None, 1, None), 2, ((None, 3, None), 8, None)))

    def test_the_least_key_of_the_right_side_leaves_its_right_side(self):
        tree = ((None, 1, None), 2, (((None, 3, (None, 4, None)), 5, None), 6, None))
        self.assertEqual(taken(tree, 2), ((None, 1, None), 3, (((None, 4, None), 5, None), 6, None)))

    def test_keys_at_the_top(self):
        self.assertEqual(taken((None, 1, (None, 2, None)), 1), (None, 2, None))
        self.assertEqual(taken(((None, 1, None), 2, None), 2), (None, 1, None))

    def test_many_trees(self):
        for tree in helper.many_trees():
            for key in helper.plain_keys(tree):
                self.assertEqual(taken(tree, key), plain_taken(tree, key))
                self.assertIs(is_tree(taken(tree, key)), True)

    def test_put_and_taken_again(self):
        for tree in helper.many_trees():
            keys = helper.plain_keys(tree)
            for key in helper.keys_around(tree):
                if key not in keys and len(keys) < 60:
                    self.assertEqual(taken(put(tree, key), key), tree)

    def test_not_there(self):
        for tree in helper.many_trees():
            keys = helper.plain_keys(tree)
            for key in helper.keys_around(tree):
                if key not in keys:
                    with self.assertRaises(NotThere):
                        taken(tree, key)


def plain_taken(tree, key):
    """By the knots' sides in a dict: the key's place is filled, then the knot whose key went there is cut out."""
    sides = {told[0]: [told[1] and told[1][1], told[2] and told[2][1]] for told in helper.knots(tree)}
    tops = {"top": [tree[1], None]}

    def put_in_place_of(old, new):
        for pair in list(sides.values()) + list(tops.values()):
            for side in (0, 1):
                if pair[side] == old and pair[side] is not None:
                    pair[side] = new

    def cut(old):
        left, right = sides.pop(old)
        put_in_place_of(old, right if left is None else left)

    if None in sides[key]:
        cut(key)
    else:
        heir = min(other for other in helper.plain_keys(tree) if other > key)
        cut(heir)
        put_in_place_of(key, heir)
        sides[heir] = sides.pop(key)

    def build(top):
        return None if top is None else (build(sides[top][0]), top, build(sides[top][1]))

    return build(tops["top"][0])


class Mirrored(unittest.TestCase):
    def test_ordinary(self):
        self.assertEqual(mirrored(SMALL), (((None, -8, None), -5, (None, -3, None)), -2, (None, -1, None)))
        self.assertEqual(mirrored((None, 0, None)), (None, 0, None))

    def test_many_trees(self):
        for tree in helper.many_trees():
            told = mirrored(tree)
            self.assertIs(is_tree(told), True)
            self.assertEqual(mirrored(told), tree)
            self.assertEqual(helper.plain_keys(told), sorted(-key for key in helper.plain_keys(tree)))
            self.assertEqual({-key: up if up is None else -up for key, up in helper.plain_ups(told).items()},
                             helper.plain_ups(tree))
