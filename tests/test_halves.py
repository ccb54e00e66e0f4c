"""leafpages.halves: points 17 to 19, and what point 3 says of the order by halves."""

import random
import unittest

import helper
from leafpages.halves import by_halves, cut, most_pieces, pieces
from leafpages.layouts import fault, first_parted

SEVEN = helper.low_tree(list(range(1, 8)))
FIFTEEN = helper.low_tree(list(range(1, 16)))
THIRTY_ONE = helper.low_tree(list(range(1, 32)))
SIZES = tuple(range(1, 61))


def split(ways, levels, from_level):
    """The keys, with their ways, that point 17 puts one behind the other: the upper ones, then each lower knot's."""
    half = from_level + levels // 2
    upper = {key: way for key, way in ways.items() if len(way) <= half}
    parts = [(upper, levels // 2, from_level)]
    for knot in sorted(key for key, way in ways.items() if len(way) == half + 1):
        under = {key: way for key, way in ways.items() if knot in way}
        parts.append((under, levels - levels // 2, half))
    return parts


def plain_order(ways, levels, from_level=0):
    if levels == 1:
        return list(ways)
    return [key for part in split(ways, levels, from_level) for key in plain_order(*part)]


def plain_pieces(ways, levels, size, from_level=0):
    if len(ways) <= size:
        return [plain_order(ways, levels, from_level)]
    return [piece for under, fewer, start in split(ways, levels, from_level)
            for piece in plain_pieces(under, fewer, size, start)]


def ways_of(tree):
    return {key: helper.plain_way(tree, key) for key in helper.plain_keys(tree)}


def plain_height(tree):
    return max([len(way) for way in ways_of(tree).values()], default=0)


class ByHalves(unittest.TestCase):
    def test_the_empty_tree(self):
        self.assertEqual(by_halves(None), [])

    def test_one_key(self):
        self.assertEqual(by_halves((None, 0, None)), [0])

    def test_three_levels_are_one_and_two(self):
        self.assertEqual(by_halves(SEVEN), [4, 2, 1, 3, 6, 5, 7])

    def test_four_levels_are_two_and_two(self):
        self.assertEqual(by_halves(FIFTEEN), [8, 4, 12, 2, 1, 3, 6, 5, 7, 10, 9, 11, 14, 13, 15])

    def test_five_levels_are_two_and_three(self):
        self.assertEqual(by_halves(THIRTY_ONE), [16, 8, 24] + [4, 2, 1, 3, 6, 5, 7] + [12, 10, 9, 11, 14, 13, 15]
                         + [20, 18, 17, 19, 22, 21, 23] + [28, 26, 25, 27, 30, 29, 31])

    def test_ways_of_unlike_length(self):
        tree = ((None, 1, None), 2, (None, 3, (None, 4, ((None, 5, None), 6, (None, 7, None)))))
        self.assertEqual(by_halves(tree), [2, 1, 3, 4, 6, 5, 7])
        tree = (((None, 1, None), 2, (None, 3, None)), 4, ((None, 5, None), 6, (None, 7, (None, 8, None))))
        self.assertEqual(by_halves(tree), [4, 2, 6, 1, 3, 5, 7, 8])

    def test_trees_that_lean_to_one_side(self):
        for count in range(1, 61):
            keys = list(range(count))
            self.assertEqual(by_halves(helper.right_leaning(keys)), keys)
            self.assertEqual(by_halves(helper.left_leaning(keys)), keys[::-1])
            self.assertEqual(by_halves(helper.zigzag(keys)), helper.plain_way(helper.zigzag(keys), deepest(keys)))

    def test_many_trees(self):
        for tree in helper.many_trees():
            order = by_halves(tree)
            self.assertEqual(sorted(order), helper.plain_keys(tree))
            if tree is not None:
                self.assertEqual(order, plain_order(ways_of(tree), plain_height(tree)))

    def test_all_small_trees(self):
        for count in range(1, 8):
            for tree in helper.shapes(list(range(count))):
                self.assertEqual(by_halves(tree), plain_order(ways_of(tree), plain_height(tree)))


def deepest(keys):
    tree = helper.zigzag(keys)
    return max(keys, key=lambda key: len(helper.plain_way(tree, key)))


class Cut(unittest.TestCase):
    def test_ordinary(self):
        keys = [4, 2, 1, 3, 6, 5, 7]
        self.assertEqual(cut(keys, 3, 0), [[4, 2, 1], [3, 6, 5], [7]])
        self.assertEqual(cut(keys, 3, 1), [[4, 2], [1, 3, 6], [5, 7]])
        self.assertEqual(cut(keys, 3, 2), [[4], [2, 1, 3], [6, 5, 7]])
        self.assertEqual(cut(keys, 1, 0), [[4], [2], [1], [3], [6], [5], [7]])

    def test_no_keys(self):
        for size in SIZES:
            for ahead in range(size):
                self.assertEqual(cut([], size, ahead), [])

    def test_one_key(self):
        for size in SIZES:
            for ahead in range(size):
                self.assertEqual(cut([0], size, ahead), [[0]])

    def test_a_size_as_great_as_the_order(self):
        keys = [4, 2, 1, 3, 6, 5, 7]
        self.assertEqual(cut(keys, 7, 0), [keys])
        self.assertEqual(cut(keys, 8, 1), [keys])
        self.assertEqual(cut(keys, 7, 1), [keys[:6], keys[6:]])
        self.assertEqual(cut(keys, 7, 6), [keys[:1], keys[1:]])
        self.assertEqual(cut(keys, 60, 53), [keys])
        self.assertEqual(cut(keys, 60, 59), [keys[:1], keys[1:]])

    def test_every_size_and_number_ahead(self):
        for count in (1, 2, 7, 31, 59, 60):
            keys = random.Random(20).sample(range(-100, 100), count)
            for size in SIZES:
                for ahead in range(size):
                    layout = cut(keys, size, ahead)
                    self.assertNotIn([], layout)
                    self.assertEqual([key for page in layout for key in page], keys)
                    numbers = [number for number, page in enumerate(layout) for key in page]
                    self.assertEqual(numbers, [(place + ahead) // size for place in range(count)])

    def test_a_list_of_four_hundred(self):
        layout = cut(list(range(400)), 60, 30)
        self.assertEqual([len(page) for page in layout], [30, 60, 60, 60, 60, 60, 60, 10])

    def test_no_page_is_told_empty_where_more_stands_ahead_than_a_page_has(self):
        self.assertEqual(cut([5, 3, 4], 2, 2), [[5, 3], [4]])
        self.assertEqual(cut([5, 3, 4], 2, 5), [[5], [3, 4]])


class Pieces(unittest.TestCase):
    def test_ordinary(self):
        self.assertEqual(pieces(SEVEN, 7), [[4, 2, 1, 3, 6, 5, 7]])
        self.assertEqual(pieces(SEVEN, 6), [[4], [2, 1, 3], [6, 5, 7]])
        self.assertEqual(pieces(SEVEN, 3), [[4], [2, 1, 3], [6, 5, 7]])
        self.assertEqual(pieces(SEVEN, 2), [[4], [2], [1], [3], [6], [5], [7]])
        self.assertEqual(pieces(FIFTEEN, 14), [[8, 4, 12], [2, 1, 3], [6, 5, 7], [10, 9, 11], [14, 13, 15]])

    def test_only_pieces_with_more_keys_than_the_size_are_split(self):
        tree = ((None, 1, None), 2, ((None, 3, None), 4, (None, 5, None)))
        self.assertEqual(pieces(tree, 2), [[2], [1], [4], [3], [5]])
        self.assertEqual(pieces(tree, 3), [[2], [1], [4, 3, 5]])
        self.assertEqual(pieces(tree, 4), [[2], [1], [4, 3, 5]])

    def test_a_piece_without_lower_knots(self):
        tree = (((None, 1, None), 2, None), 3, (None, 4, (None, 5, (None, 6, (None, 7, None)))))
        self.assertEqual(by_halves(tree), [3, 2, 4, 1, 5, 6, 7])
        self.assertEqual(pieces(tree, 3), [[3, 2, 4], [1], [5, 6, 7]])
        self.assertEqual(pieces(tree, 2), [[3], [2], [4], [1], [5], [6, 7]])

    def test_the_empty_tree(self):
        for size in SIZES:
            self.assertEqual(pieces(None, size), [])

    def test_one_key(self):
        for size in SIZES:
            self.assertEqual(pieces((None, 0, None), size), [[0]])

    def test_sizes_one_and_as_great_as_the_order(self):
        for tree in helper.many_trees():
            order = by_halves(tree)
            self.assertEqual(pieces(tree, 1), [[key] for key in order])
            self.assertEqual(pieces(tree, 60), [order] if order else [])
            if order:
                self.assertEqual(pieces(tree, len(order)), [order])
            if len(order) > 1:
                self.assertGreater(len(pieces(tree, len(order) - 1)), 1)

    def test_many_trees(self):
        for tree in helper.many_trees():
            ways = ways_of(tree)
            for size in (1, 2, 3, 4, 6, 7, 10, 15, 20, 30, 31, 59, 60):
                told = pieces(tree, size)
                self.assertEqual([key for piece in told for key in piece], by_halves(tree))
                self.assertEqual([piece for piece in told if not 1 <= len(piece) <= size], [])
                self.assertIsNone(fault(tree, size, told))
                self.assertIsNone(first_parted(tree, told))
                if tree is not None:
                    self.assertEqual(told, plain_pieces(ways, plain_height(tree), size))

    def test_all_small_trees(self):
        for count in range(1, 8):
            for tree in helper.shapes(list(range(count))):
                for size in range(1, count + 1):
                    self.assertEqual(pieces(tree, size), plain_pieces(ways_of(tree), plain_height(tree), size))


class MostPieces(unittest.TestCase):
    def test_height_nought(self):
        for size in SIZES:
            self.assertEqual(most_pieces(0, size), 0)

    def test_size_one_is_a_piece_for_each_level(self):
        for height in range(61):
            self.assertEqual(most_pieces(height, 1), height)
            self.assertEqual(most_pieces(height, 2), height)

    def test_as_high_as_the_keys_of_one_piece_allow(self):
        for levels in range(1, 6):
            size = (1 << levels) - 1
            self.assertEqual(most_pieces(levels, size), 1)
            self.assertEqual(most_pieces(levels + 1, size), 2)
            self.assertEqual(most_pieces(levels + 1, min(2 * size, 60)), 2)
        self.assertEqual(most_pieces(6, 60), 2)

    def test_by_hand(self):
        self.assertEqual([most_pieces(height, 3) for height in range(10)], [0, 1, 1, 2, 2, 3, 4, 4, 4, 5])
        self.assertEqual([most_pieces(height, 7) for height in (4, 5, 6, 7, 8, 15, 30, 60)], [2, 2, 2, 3, 4, 7, 14, 28])
        self.assertEqual([most_pieces(height, 60) for height in (5, 6, 10, 11, 60)], [1, 2, 2, 3, 16])

    def test_each_way_meets_at_most_so_many_pieces(self):
        for tree in helper.many_trees():
            ways = ways_of(tree)
            height = plain_height(tree)
            for size in SIZES:
                piece_of = {key: number for number, piece in enumerate(pieces(tree, size)) for key in piece}
                met = [len({piece_of[knot] for knot in way}) for way in ways.values()]
                self.assertLessEqual(max(met, default=0), most_pieces(height, size))

    def test_each_way_meets_at_most_twice_as_many_pages_for_every_size_and_number_ahead(self):
        for tree in helper.many_trees():
            leaves = [key for key, kids in helper.plain_kids(tree).items() if not kids]
            ways = [way for key, way in ways_of(tree).items() if key in leaves]
            order = by_halves(tree)
            for size in SIZES:
                most = 2 * most_pieces(plain_height(tree), size)
                for ahead in range(size):
                    page_of = {key: number for number, page in enumerate(cut(order, size, ahead)) for key in page}
                    met = [len({page_of[knot] for knot in way}) for way in ways]
                    self.assertLessEqual(max(met, default=0), most)
