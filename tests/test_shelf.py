"""leafpages.shelf: points 24 and 25, and what point 3 says of keys put in and taken out."""

import random
import unittest

import helper
from leafpages.errors import Full, LeafError, NotThere, There
from leafpages.layouts import fault, first_parted
from leafpages.marks import by_marks, marks, shows_worst
from leafpages.shelf import Shelf, put_ties, taken_ties, ties

SEVEN = helper.low_tree([1, 2, 3, 4, 5, 6, 7])
ROOMS = (1, 2, 3, 4, 6, 11, 30, 59, 60)
FEW_ROOMS = (1, 2, 3, 5, 60)


def plain_changes(before, after, room):
    """What comes and goes, by the ties of both trees told anew."""
    ahead = set(helper.plain_ties(before, room))
    behind = set(helper.plain_ties(after, room))
    return (sorted(behind - ahead), sorted(ahead - behind))


def ups_allowed(tree, key):
    """The ways to the key and to the one that takes its place, in the tree as it was."""
    allowed = helper.plain_way_towards(tree, key)
    if key in helper.plain_keys(tree):
        allowed = helper.plain_way(tree, key)
        heir = helper.plain_heir(tree, key)
        if heir is not None:
            allowed = allowed + helper.plain_way(tree, heir)
    return allowed


def new_keys(tree):
    keys = helper.plain_keys(tree)
    return [key for key in helper.keys_around(tree) if key not in keys]


def all_told(shelf):
    return (shelf.tree(), shelf.table(), shelf.layout(), shelf.worst(), shelf.last())


class Ties(unittest.TestCase):
    def test_ordinary(self):
        self.assertEqual(ties(SEVEN, 3), [(2, 1), (2, 3), (6, 5), (6, 7)])
        self.assertEqual(ties(SEVEN, 2), [])
        self.assertEqual(ties(SEVEN, 7), [(2, 1), (2, 3), (4, 2), (4, 6), (6, 5), (6, 7)])
        self.assertEqual(ties(SEVEN, 6), [(2, 1), (2, 3), (6, 5), (6, 7)])

    def test_kids_of_a_lesser_level_are_not_tied(self):
        tree = (((None, 1, None), 2, (None, 3, None)), 4, (None, 5, None))
        self.assertEqual(ties(tree, 2), [(4, 2)])

    def test_the_empty_tree_and_one_key(self):
        for room in ROOMS:
            self.assertEqual(ties(None, room), [])
            self.assertEqual(ties((None, 0, None), room), [])

    def test_room_one_ties_nothing_and_room_sixty_all(self):
        for tree in helper.many_trees():
            steps = sorted((up, kid) for kid, up in helper.plain_ups(tree).items() if up is not None)
            self.assertEqual(ties(tree, 1), [])
            self.assertEqual(ties(tree, 60), steps)

    def test_many_trees(self):
        for tree in helper.many_trees():
            for room in ROOMS:
                self.assertEqual(ties(tree, room), sorted(helper.plain_ties(tree, room)))

    def test_they_lead_to_the_layout_by_marks(self):
        for tree in helper.many_trees():
            for room in FEW_ROOMS:
                pages = helper.pages_by_ties(helper.plain_keys(tree), ties(tree, room))
                self.assertEqual(by_marks(tree, room), [list(page) for page in pages])

    def test_kinds(self):
        told = ties(SEVEN, 3)
        self.assertIsInstance(told, list)
        for tie in told:
            self.assertIsInstance(tie, tuple)
            self.assertEqual([type(key) for key in tie], [int, int])


class Changes(unittest.TestCase):
    def check(self, tree, room, told, after, key):
        self.assertEqual(told, plain_changes(tree, after, room), (tree, room, key))
        self.assertIsInstance(told, tuple)
        self.assertEqual([type(part) for part in told], [list, list])
        allowed = ups_allowed(tree, key)
        for up, kid in told[0] + told[1]:
            self.assertIn(up, allowed, (tree, room, key))

    def test_ordinary(self):
        tree = helper.from_outline([4, 2, 6, 1])
        self.assertEqual(put_ties(tree, 3, 3), ([(2, 3)], []))
        self.assertEqual(put_ties(tree, 2, 3), ([(4, 2)], [(2, 1)]))
        self.assertEqual(put_ties(tree, 60, 3), ([(2, 3)], []))
        self.assertEqual(taken_ties(tree, 2, 1), ([], [(2, 1)]))
        self.assertEqual(taken_ties(tree, 60, 2), ([(4, 1)], [(2, 1), (4, 2)]))
        self.assertEqual(taken_ties(SEVEN, 60, 4), ([(5, 2), (5, 6)], [(4, 2), (4, 6), (6, 5)]))
        self.assertEqual(taken_ties(SEVEN, 3, 4), ([], [(6, 5)]))

    def test_the_way_to_the_key_that_takes_the_place(self):
        tree = helper.from_outline([1, 0, 9, 2, 8, 7, 6])
        self.assertEqual(taken_ties(tree, 3, 1), plain_changes(tree, helper.from_outline([2, 0, 9, 8, 7, 6]), 3))
        self.assertEqual(taken_ties(tree, 60, 1), ([(2, 0), (2, 9), (9, 8)], [(1, 0), (1, 9), (2, 8), (9, 2)]))

    def test_into_the_empty_tree_and_out_of_one_key(self):
        for room in ROOMS:
            self.assertEqual(put_ties(None, room, 0), ([], []))
            self.assertEqual(taken_ties((None, 0, None), room, 0), ([], []))

    def test_two_keys(self):
        self.assertEqual(put_ties((None, 0, None), 1, 5), ([], []))
        self.assertEqual(put_ties((None, 0, None), 2, 5), ([(0, 5)], []))
        self.assertEqual(taken_ties((None, 0, (None, 5, None)), 2, 0), ([], [(0, 5)]))
        self.assertEqual(taken_ties((None, 0, (None, 5, None)), 1, 0), ([], []))

    def test_put_into_many_trees(self):
        draw = random.Random(21)
        for tree in helper.many_trees():
            keys = new_keys(tree)
            if len(helper.plain_keys(tree)) < 60:
                for key in draw.sample(keys, min(len(keys), 8)) + keys[:1] + keys[-1:]:
                    for room in FEW_ROOMS:
                        self.check(tree, room, put_ties(tree, room, key), helper.behind_put(tree, key), key)

    def test_taken_out_of_many_trees(self):
        draw = random.Random(22)
        for tree in helper.many_trees():
            keys = helper.plain_keys(tree)
            for key in draw.sample(keys, min(len(keys), 8)) + keys[:1] + keys[-1:] + helper.outline(tree)[:1]:
                for room in FEW_ROOMS:
                    self.check(tree, room, taken_ties(tree, room, key), helper.behind_take(tree, key), key)

    def test_all_small_trees_all_keys(self):
        for count in range(7):
            for tree in helper.shapes(list(range(0, 2 * count, 2))):
                for room in range(1, count + 2):
                    for key in range(-1, 2 * count):
                        if key in helper.plain_keys(tree):
                            self.check(tree, room, taken_ties(tree, room, key), helper.behind_take(tree, key), key)
                        elif key % 2:
                            self.check(tree, room, put_ties(tree, room, key), helper.behind_put(tree, key), key)

    def test_fifty_nine_keys_and_sixty(self):
        tree = helper.low_tree(list(range(0, 118, 2)))
        for room in ROOMS:
            self.check(tree, room, put_ties(tree, room, 33), helper.behind_put(tree, 33), 33)
            fullest = helper.behind_put(tree, 33)
            self.check(fullest, room, taken_ties(fullest, room, 33), tree, 33)

    def test_a_full_tree_is_not_refused_for_its_keys(self):
        tree = helper.low_tree(list(range(0, 120, 2)))
        self.check(tree, 7, put_ties(tree, 7, 33), helper.behind_put(tree, 33), 33)


class Empty(unittest.TestCase):
    def test_ahead_of_all_deeds(self):
        for room in ROOMS:
            shelf = Shelf(room)
            self.assertIsNone(shelf.tree())
            self.assertEqual(shelf.table(), [])
            self.assertEqual(shelf.layout(), [])
            self.assertEqual(shelf.worst(), 0)
            self.assertIs(shelf.has(0), False)
            self.assertEqual(shelf.last(), ([], []))

    def test_refused_ahead_of_all_deeds(self):
        shelf = Shelf(3)
        with self.assertRaises(NotThere):
            shelf.take(0)
        self.assertEqual(all_told(shelf), (None, [], [], 0, ([], [])))

    def test_one_key_put_in_and_taken_out(self):
        for key in (0, 1, -1, 10 ** 60 - 1, -10 ** 60 + 1):
            shelf = Shelf(1)
            self.assertIsNone(shelf.put(key))
            self.assertEqual(all_told(shelf), ((None, key, None), [(key, 1, 1)], [[key]], 1, ([], [])))
            self.assertIs(shelf.has(key), True)
            self.assertIs(shelf.has(key + 1), False)
            self.assertIsNone(shelf.take(key))
            self.assertEqual(all_told(shelf), (None, [], [], 0, ([], [])))
            self.assertIs(shelf.has(key), False)


class Deeds(unittest.TestCase):
    def check(self, shelf, room, tree):
        """That all is told as of this tree made anew."""
        told = helper.plain_marks(tree, room)
        self.assertEqual(shelf.tree(), tree)
        self.assertEqual(shelf.table(), [(key,) + told[key] for key in sorted(told)])
        self.assertEqual(shelf.table(), marks(tree, room))
        pages = helper.pages_by_ties(sorted(told), helper.plain_ties(tree, room))
        self.assertEqual(shelf.layout(), [list(page) for page in pages])
        self.assertEqual(shelf.worst(), helper.plain_worst(tree, shelf.layout()))
        self.assertIs(type(shelf.worst()), int)

    def do(self, shelf, room, tree, key):
        """Puts the key in or takes it out; tells the tree behind it."""
        if key in helper.plain_keys(tree):
            after = helper.behind_take(tree, key)
            self.assertIs(shelf.has(key), True)
            self.assertIsNone(shelf.take(key))
            self.assertIs(shelf.has(key), False)
        else:
            after = helper.behind_put(tree, key)
            self.assertIs(shelf.has(key), False)
            self.assertIsNone(shelf.put(key))
            self.assertIs(shelf.has(key), True)
        self.check(shelf, room, after)
        self.check_last(shelf, room, tree, after, key)
        return after

    def check_last(self, shelf, room, tree, after, key):
        come, gone = shelf.last()
        ahead = helper.plain_ties(tree, room)
        self.assertEqual((come, gone), (sorted(come), sorted(gone)))
        self.assertTrue(set(gone) <= set(ahead))
        self.assertFalse(set(come) & set(ahead))
        self.assertEqual(sorted((set(ahead) - set(gone)) | set(come)), sorted(helper.plain_ties(after, room)))
        self.assertEqual(len(come + gone), len(set(come + gone)))
        allowed = ups_allowed(tree, key)
        for up, kid in come + gone:
            self.assertIn(up, allowed)

    def test_ordinary(self):
        shelf = Shelf(3)
        for key in (4, 2, 6, 1, 3, 5, 7):
            shelf.put(key)
        self.assertEqual(shelf.tree(), SEVEN)
        self.assertEqual(shelf.layout(), [[1, 2, 3], [4], [5, 6, 7]])
        self.assertEqual(shelf.worst(), 2)
        self.assertEqual(shelf.last(), ([(6, 7)], []))
        shelf.take(4)
        self.assertEqual(shelf.tree(), helper.from_outline([5, 2, 1, 3, 6, 7]))
        self.assertEqual(shelf.last(), ([], [(6, 5)]))
        shelf.take(1)
        shelf.take(3)
        self.assertEqual(shelf.last(), ([], [(2, 3)]))
        shelf.take(7)
        self.assertEqual(shelf.last(), ([(5, 2), (5, 6)], [(6, 7)]))
        self.assertEqual(shelf.layout(), [[2, 5, 6]])

    def test_many_deeds(self):
        for seed, room in enumerate((1, 2, 3, 4, 7, 15, 60)):
            draw = random.Random(30 + seed)
            keys = helper.drawn_keys(40, draw)
            shelf = Shelf(room)
            tree = None
            for step in range(130):
                tree = self.do(shelf, room, tree, draw.choice(keys))

    def test_filled_and_emptied(self):
        draw = random.Random(40)
        for room, keys in ((2, list(range(60))), (3, list(range(60, 0, -1))), (5, helper.drawn_keys(60, draw))):
            shelf = Shelf(room)
            tree = None
            if room == 5:
                draw.shuffle(keys)
            for key in keys:
                tree = self.do(shelf, room, tree, key)
            self.assertEqual(tree, helper.from_outline(keys))
            draw.shuffle(keys)
            for key in keys:
                tree = self.do(shelf, room, tree, key)
            self.assertEqual(all_told(shelf), (None, [], [], 0, ([], [])))

    def test_the_top_taken_out_again_and_again(self):
        shelf = Shelf(4)
        tree = None
        for key in helper.outline(helper.low_tree(list(range(-20, 21)))):
            tree = self.do(shelf, 4, tree, key)
        while tree is not None:
            tree = self.do(shelf, 4, tree, tree[1])

    def test_two_side_by_side(self):
        draw = random.Random(41)
        first, other = Shelf(2), Shelf(5)
        first_tree = other_tree = None
        for step in range(60):
            first_tree = self.do(first, 2, first_tree, draw.randrange(20))
            self.check(other, 5, other_tree)
            told = first.last()
            other_tree = self.do(other, 5, other_tree, draw.randrange(20))
            self.check(first, 2, first_tree)
            self.assertEqual(first.last(), told)

    def test_behind_each_deed_the_layout_is_right_and_the_table_shows_its_worst(self):
        draw = random.Random(42)
        shelf = Shelf(3)
        for step in range(120):
            helper.put_or_take(shelf, draw.randrange(30))
            tree = shelf.tree()
            self.assertIsNone(fault(tree, 3, shelf.layout()))
            self.assertIsNone(first_parted(tree, shelf.layout()))
            self.assertIs(shows_worst(tree, 3, shelf.table(), shelf.worst()), True)
            self.assertIs(shows_worst(tree, 3, shelf.table(), shelf.worst() + 1), False)


class Refusals(unittest.TestCase):
    def refused(self, shelf, deed, key, refusal):
        before = all_told(shelf)
        with self.assertRaises(LeafError) as caught:
            deed(key)
        self.assertIs(type(caught.exception), refusal)
        self.assertIsInstance(caught.exception, ValueError)
        self.assertEqual(all_told(shelf), before)

    def full_shelf(self):
        shelf = Shelf(6)
        for key in helper.outline(helper.low_tree(list(range(0, 120, 2)))):
            shelf.put(key)
        return shelf

    def test_there(self):
        shelf = Shelf(2)
        shelf.put(0)
        shelf.put(7)
        self.assertEqual(shelf.last(), ([(0, 7)], []))
        self.refused(shelf, shelf.put, 0, There)
        self.refused(shelf, shelf.put, 7, There)
        self.assertEqual(shelf.last(), ([(0, 7)], []))

    def test_not_there(self):
        shelf = Shelf(2)
        self.refused(shelf, shelf.take, 0, NotThere)
        shelf.put(0)
        shelf.put(7)
        for key in (1, -7, 8, 10 ** 60 - 1):
            self.refused(shelf, shelf.take, key, NotThere)
        self.assertEqual(shelf.last(), ([(0, 7)], []))
        shelf.take(7)
        self.refused(shelf, shelf.take, 7, NotThere)
        self.assertEqual(shelf.last(), ([], [(0, 7)]))

    def test_full(self):
        shelf = self.full_shelf()
        for key in (-1, 1, 59, 119, -10 ** 60 + 1):
            self.refused(shelf, shelf.put, key, Full)
            self.assertIs(shelf.has(key), False)

    def test_there_goes_ahead_of_full(self):
        shelf = self.full_shelf()
        for key in (0, 58, 118):
            self.refused(shelf, shelf.put, key, There)

    def test_behind_refusals_deeds_go_on(self):
        shelf = self.full_shelf()
        self.refused(shelf, shelf.put, 1, Full)
        self.refused(shelf, shelf.take, 1, NotThere)
        shelf.take(0)
        shelf.put(1)
        self.assertEqual(shelf.tree(), helper.behind_put(helper.behind_take(self.full_shelf().tree(), 0), 1))
        self.refused(shelf, shelf.put, 0, Full)


class Own(unittest.TestCase):
    def test_what_was_told_changes_nothing_when_it_is_changed(self):
        shelf = Shelf(3)
        for key in (4, 2, 6, 1, 3, 5, 7):
            shelf.put(key)
        shelf.take(4)
        before = all_told(shelf)
        for told in (shelf.table(), shelf.layout(), shelf.last()[0], shelf.last()[1], shelf.layout()[0]):
            told.append(99)
            told.insert(0, -99)
        self.assertEqual(all_told(shelf), before)
        shelf.put(4)
        self.assertEqual(shelf.tree(), helper.behind_put(before[0], 4))

    def test_what_was_told_stays_behind_later_deeds(self):
        shelf = Shelf(2)
        kept = []
        for key in (4, 2, 6, 1, 3, 5, 7):
            shelf.put(key)
            kept.append((all_told(shelf), repr(all_told(shelf))))
        for key in (4, 2, 6, 1):
            shelf.take(key)
            kept.append((all_told(shelf), repr(all_told(shelf))))
        for told, words in kept:
            self.assertEqual(repr(told), words)

    def test_lists_ahead_of_all_deeds(self):
        first, other = Shelf(3), Shelf(3)
        first.last()[0].append((1, 2))
        first.last()[1].append((1, 2))
        first.table().append((1, 1, 1))
        first.layout().append([1])
        self.assertEqual(all_told(first), (None, [], [], 0, ([], [])))
        self.assertEqual(all_told(other), (None, [], [], 0, ([], [])))
        self.assertEqual(all_told(Shelf(3)), (None, [], [], 0, ([], [])))
