"""leafpages.belows: points 20 and 21, and what point 3 says of the number from below."""

import itertools
import random
import unittest

import helper
from leafpages.belows import from_below, holds, led, number_of
from leafpages.layouts import fault, worst

SEVEN = helper.low_tree([1, 2, 3, 4, 5, 6, 7])
CHAIN = helper.right_leaning(list(range(60)))
ROOMS = (1, 2, 3, 4, 6, 11, 30, 59, 60)


def knot(key):
    return ("knot", key)


def part(key, *papers):
    return ("part", key, papers)


def nested(keys):
    """The paper for room 1 with a part within a part for each of these keys but the last one."""
    paper = knot(keys[-1])
    for key in reversed(keys[:-1]):
        paper = part(key, paper)
    return paper


def plain_number(paper):
    return 1 if paper[0] == "knot" else 1 + max(plain_number(inner) for inner in paper[2])


def plain_holds(tree, room, paper):
    """Point 20, word by word."""
    if paper[1] not in helper.plain_keys(tree):
        return False
    if paper[0] == "knot":
        return True
    keys = [inner[1] for inner in paper[2]]
    return (len(keys) == room and all(plain_holds(tree, room, inner) for inner in paper[2])
            and len({plain_number(inner) for inner in paper[2]}) == 1
            and set(keys) <= set(helper.plain_below(tree, paper[1])) and helper.plain_apart(tree, keys))


def plain_greatest(tree, room):
    """By trying every choice of as many keys as the room, number by number."""
    keys = helper.plain_keys(tree)
    under = {key: helper.plain_below(tree, key) for key in keys}
    number = 0
    having = keys
    while having:
        number += 1
        having = [key for key in keys
                  if any(helper.plain_apart(tree, choice)
                         for choice in itertools.combinations([low for low in under[key] if low in having], room))]
    return number


def counted_greatest(tree, room):
    """By how many knots that have the number have none below them that has it: these stand apart."""
    keys = helper.plain_keys(tree)
    under = {key: helper.plain_below(tree, key) for key in keys}
    number = 0
    having = set(keys)
    while having:
        number += 1
        lowest = {key for key in having if not having & set(under[key])}
        having = {key for key in keys if len(lowest & set(under[key])) >= room}
    return number


def papers_of(tree, room, number):
    """All papers of a small tree that hold and have the number, by key; those with the same keys in one order."""
    told = {}
    for key in helper.plain_keys(tree):
        if number == 1:
            told[key] = [knot(key)]
            continue
        inner = papers_of(tree, room, number - 1)
        told[key] = [part(key, *papers)
                     for choice in itertools.combinations(helper.plain_below(tree, key), room)
                     if helper.plain_apart(tree, choice)
                     for papers in itertools.product(*[inner[low] for low in choice])]
    return told


def may_be_led_to(tree, layout, paper):
    """Every key that the words of point 21 lead to."""
    if paper[0] == "knot":
        return {paper[1]}
    page = layout[helper.plain_page(layout, paper[1])]
    found = set()
    for inner in paper[2]:
        if not set(page) & set([inner[1]] + helper.plain_below(tree, inner[1])):
            found |= may_be_led_to(tree, layout, inner)
    return found


class NumberOf(unittest.TestCase):
    def test_one_knot(self):
        self.assertEqual(number_of(knot(0)), 1)
        self.assertEqual(number_of(knot(-10 ** 60 + 1)), 1)

    def test_parts(self):
        self.assertEqual(number_of(part(4, knot(2), knot(6))), 2)
        self.assertEqual(number_of(part(4, part(2, knot(1), knot(3)), part(6, knot(5), knot(7)))), 3)

    def test_sixty_deep(self):
        for count in range(1, 61):
            self.assertEqual(number_of(nested(list(range(count)))), count)


class Holds(unittest.TestCase):
    def test_one_knot(self):
        for tree in helper.many_trees():
            keys = helper.plain_keys(tree)
            for key in helper.keys_around(tree):
                for room in (1, 5, 60):
                    self.assertIs(holds(tree, room, knot(key)), key in keys)

    def test_ordinary(self):
        for paper in (part(4, knot(2), knot(6)), part(4, knot(1), knot(3)), part(4, knot(7), knot(1)),
                      part(2, knot(3), knot(1)), part(4, part(2, knot(1), knot(3)), part(6, knot(5), knot(7)))):
            self.assertIs(holds(SEVEN, 2, paper), True)
        self.assertIs(holds(SEVEN, 4, part(4, knot(1), knot(3), knot(5), knot(7))), True)
        self.assertIs(holds(SEVEN, 3, part(4, knot(2), knot(5), knot(7))), True)

    def test_a_key_that_is_not_in_the_tree(self):
        for paper in (knot(0), knot(8), part(0, knot(1), knot(3)), part(8, knot(1), knot(3)),
                      part(4, knot(0), knot(6)), part(4, knot(1), knot(8)),
                      part(4, part(2, knot(1), knot(9)), part(6, knot(5), knot(7)))):
            self.assertIs(holds(SEVEN, 2, paper), False, paper)
        self.assertIs(holds(None, 1, knot(0)), False)
        self.assertIs(holds(None, 1, part(0, knot(1))), False)

    def test_too_few_or_too_many_papers(self):
        paper = part(4, knot(1), knot(3), knot(5))
        self.assertIs(holds(SEVEN, 3, paper), True)
        for room in (1, 2, 4, 60):
            self.assertIs(holds(SEVEN, room, paper), False)
        for room in (1, 2, 60):
            self.assertIs(holds(SEVEN, room, part(4)), False)
        self.assertIs(holds(SEVEN, 2, part(4, part(2, knot(1)), part(6, knot(5)))), False)
        self.assertIs(holds(SEVEN, 2, part(4, part(2, knot(1), knot(3)), part(6, knot(5)))), False)
        self.assertIs(holds(SEVEN, 1, part(4, part(2, knot(1), knot(3)))), False)
        self.assertIs(holds(SEVEN, 1, part(4, part(2))), False)
        self.assertIs(holds(SEVEN, 4, part(4, knot(1), knot(3), knot(5), knot(7), knot(2))), False)

    def test_papers_of_unlike_numbers(self):
        lower = part(2, knot(1), knot(3))
        self.assertIs(holds(SEVEN, 2, lower), True)
        self.assertIs(holds(SEVEN, 2, part(4, lower, knot(6))), False)
        self.assertIs(holds(SEVEN, 2, part(4, knot(6), lower)), False)
        self.assertIs(holds(SEVEN, 2, part(4, lower, part(6, knot(5), knot(7)))), True)

    def test_a_key_that_is_not_below_its_parts_key(self):
        for paper in (part(2, knot(1), knot(6)), part(2, knot(5), knot(3)), part(2, knot(4), knot(1)),
                      part(4, knot(4), knot(1)), part(1, knot(2), knot(3)), part(2, knot(1), knot(2)),
                      part(4, part(6, knot(1), knot(3)), part(2, knot(5), knot(7)))):
            self.assertIs(holds(SEVEN, 2, paper), False, paper)
        for key in (1, 3, 5, 7):
            self.assertIs(holds(SEVEN, 1, part(key, knot(key))), False)

    def test_a_key_that_is_or_stands_below_another_ones(self):
        for paper in (part(4, knot(2), knot(2)), part(4, knot(2), knot(1)), part(4, knot(1), knot(2)),
                      part(4, knot(3), knot(2)), part(4, knot(6), knot(7)), part(2, knot(1), knot(1)),
                      part(4, part(2, knot(1), knot(3)), part(2, knot(1), knot(3)))):
            self.assertIs(holds(SEVEN, 2, paper), False, paper)
        self.assertIs(holds(SEVEN, 3, part(4, knot(1), knot(6), knot(5))), False)
        self.assertIs(holds(SEVEN, 3, part(4, knot(1), knot(6), knot(1))), False)
        far = helper.right_leaning([1, 2, 3, 4, 5, 6])
        self.assertIs(holds(far, 2, part(1, knot(2), knot(6))), False)
        self.assertIs(holds(far, 2, part(1, knot(6), knot(2))), False)

    def test_a_wrong_paper_far_within(self):
        keys = list(range(60))
        self.assertIs(holds(CHAIN, 1, nested(keys)), True)
        for place in range(60):
            wrong = list(keys)
            wrong[place] = 99
            self.assertIs(holds(CHAIN, 1, nested(wrong)), False)
        for place in range(59):
            wrong = list(keys)
            wrong[place], wrong[place + 1] = wrong[place + 1], wrong[place]
            self.assertIs(holds(CHAIN, 1, nested(wrong)), False)
        self.assertIs(holds(CHAIN, 1, nested(keys + [59])), False)
        self.assertIs(holds(CHAIN, 1, nested(keys[:30] + [29] + keys[30:])), False)

    def test_keys_left_out_are_no_fault(self):
        draw = random.Random(30)
        for count in range(1, 61):
            keys = sorted(draw.sample(range(60), count))
            self.assertIs(holds(CHAIN, 1, nested(keys)), True)
            self.assertIs(holds(CHAIN, 2, nested(keys)), count == 1)

    def test_one_paper_many_times_within_another(self):
        for tree, room in ((CHAIN, 2), (helper.low_tree(list(range(60))), 2), (CHAIN, 3), (SEVEN, 1)):
            paper = knot(59)
            for key in range(58, -1, -1):
                paper = part(key, paper, paper)
            self.assertIs(holds(tree, room, paper), False)
        paper = knot(59)
        for key in range(58, -1, -1):
            paper = part(key, paper, paper, knot(0))
        self.assertIs(holds(CHAIN, 3, paper), False)

    def test_all_papers_of_a_small_tree_by_the_words(self):
        keys = [0, 1, 2, 3]
        simple = [knot(key) for key in keys + [9]]
        parts = [part(key, *papers) for key in keys for count in range(4)
                 for papers in itertools.product(simple, repeat=count)]
        deep = [part(key, one, other) for key in (1, 2) for one in parts[:200:3] for other in parts[1:200:4]]
        deep += [part(key, one) for key in keys for one in parts]
        found = 0
        for tree in (helper.low_tree(keys), helper.zigzag(keys), ((None, 0, None), 1, (None, 2, (None, 3, None)))):
            for room in (1, 2, 3):
                for paper in simple + parts + deep:
                    expected = plain_holds(tree, room, paper)
                    found += expected
                    self.assertIs(holds(tree, room, paper), expected, (tree, room, paper))
        self.assertGreater(found, 50)


class FromBelow(unittest.TestCase):
    def test_ordinary(self):
        self.assertEqual(from_below(SEVEN, 2), part(4, part(2, knot(1), knot(3)), part(6, knot(5), knot(7))))
        self.assertEqual(number_of(from_below(SEVEN, 1)), 3)
        self.assertEqual(number_of(from_below(SEVEN, 3)), 2)
        self.assertEqual(number_of(from_below(SEVEN, 4)), 2)
        self.assertEqual(number_of(from_below(SEVEN, 5)), 1)

    def test_one_key(self):
        for room in ROOMS:
            self.assertEqual(from_below((None, 0, None), room), knot(0))

    def test_room_one_is_the_height(self):
        for tree in helper.many_trees()[1:]:
            height = max(len(helper.plain_way(tree, key)) for key in helper.plain_keys(tree))
            self.assertEqual(plain_number(from_below(tree, 1)), height)
        self.assertEqual(from_below(CHAIN, 1), nested(list(range(60))))

    def test_room_sixty_is_one_knot(self):
        for tree in helper.many_trees()[1:]:
            self.assertEqual(from_below(tree, 60)[0], "knot")
            self.assertIn(from_below(tree, 60)[1], helper.plain_keys(tree))

    def test_keys_from_far_below_on_both_sides(self):
        tree = (((None, 1, None), 2, ((None, 3, None), 4, None)), 5, (None, 6, ((None, 7, None), 8, (None, 9, None))))
        self.assertEqual(plain_number(from_below(tree, 4)), 2)
        self.assertEqual(plain_number(from_below(tree, 2)), 3)

    def test_it_holds_and_is_the_greatest(self):
        for tree in helper.many_trees()[1:]:
            for room in ROOMS:
                paper = from_below(tree, room)
                self.assertIs(plain_holds(tree, room, paper), True)
                self.assertIs(holds(tree, room, paper), True)
                self.assertEqual(plain_number(paper), counted_greatest(tree, room))
                self.assertEqual(number_of(paper), plain_number(paper))

    def test_every_room(self):
        draw = random.Random(31)
        keys = helper.drawn_keys(60, draw)
        for tree in (helper.low_tree(keys), helper.drawn_tree(keys, draw)):
            for room in range(1, 61):
                paper = from_below(tree, room)
                self.assertIs(plain_holds(tree, room, paper), True)
                self.assertEqual(plain_number(paper), counted_greatest(tree, room))

    def test_every_small_tree(self):
        for count in range(1, 8):
            for tree in helper.shapes(list(range(count))):
                for room in range(1, 5):
                    paper = from_below(tree, room)
                    self.assertIs(plain_holds(tree, room, paper), True)
                    self.assertEqual(plain_number(paper), plain_greatest(tree, room))


class Led(unittest.TestCase):
    def check(self, tree, layout, paper):
        key = led(tree, layout, paper)
        met = {helper.plain_page(layout, other) for other in helper.plain_way(tree, key)}
        self.assertGreaterEqual(len(met), plain_number(paper), (tree, layout, paper))
        self.assertIn(key, may_be_led_to(tree, layout, paper))

    def test_one_knot(self):
        for key in range(1, 8):
            self.assertEqual(led(SEVEN, [[4, 2, 6], [], [1, 3, 5], [7]], knot(key)), key)
            self.assertEqual(led(SEVEN, [[1, 2, 3, 4, 5, 6, 7]], knot(key)), key)

    def test_ordinary(self):
        paper = part(4, knot(2), knot(6))
        self.assertEqual(led(SEVEN, [[4, 2], [1, 3], [6, 5], [7]], paper), 6)
        self.assertEqual(led(SEVEN, [[4, 6], [1, 3], [2, 5], [7]], paper), 2)
        self.assertEqual(led(SEVEN, [[], [4, 7], [1, 3], [2, 5], [6]], paper), 2)
        self.assertEqual(led(SEVEN, [[1, 4], [2, 3], [7, 5], [], [6]], paper), 6)

    def test_parts_within_parts(self):
        paper = part(4, part(2, knot(1), knot(3)), part(6, knot(5), knot(7)))
        self.assertEqual(led(SEVEN, [[4, 1], [6, 5], [7, 2], [3]], paper), 7)
        self.assertEqual(led(SEVEN, [[4, 7], [2, 3], [1, 5], [6]], paper), 1)

    def test_room_one(self):
        layout = [[key] for key in range(60)]
        self.assertEqual(led(CHAIN, layout, nested(list(range(60)))), 59)
        self.assertEqual(led(CHAIN, layout[::-1], nested([3, 17, 41])), 41)

    def test_all_layouts_of_small_trees(self):
        for count in range(1, 7):
            keys = list(range(count))
            layouts = list(helper.partitions(keys))
            for tree in helper.shapes(keys):
                papers = {room: from_below(tree, room) for room in range(1, count + 1)}
                for layout in layouts:
                    worst_met = helper.plain_worst(tree, layout)
                    for room in range(max(len(page) for page in layout), count + 1):
                        self.assertGreaterEqual(worst_met, plain_number(papers[room]))
                        self.check(tree, layout, papers[room])

    def test_all_papers_of_small_trees_and_all_layouts(self):
        seen = 0
        for tree in (SEVEN, helper.low_tree([1, 2, 3, 4, 5, 6]), helper.zigzag([1, 2, 3, 4]),
                     (((None, 1, None), 2, (None, 3, None)), 4, ((None, 5, None), 6, None))):
            layouts = list(helper.partitions(helper.plain_keys(tree)))[::7]
            for room in (1, 2, 3):
                right = [layout for layout in layouts if fault(tree, room, layout) is None]
                for number in (1, 2, 3):
                    for papers in papers_of(tree, room, number).values():
                        for paper in papers[:6]:
                            self.assertIs(holds(tree, room, paper), True)
                            self.assertEqual(number_of(paper), number)
                            for layout in right:
                                seen += 1
                                self.check(tree, layout, paper)
        self.assertGreater(seen, 1000)

    def test_drawn_layouts_of_larger_trees(self):
        draw = random.Random(32)
        for tree in helper.many_trees()[1:]:
            for room in (1, 2, 3, 5, 9, 30, 60):
                paper = from_below(tree, room)
                for layout in (helper.drawn_layout(tree, room, draw), helper.drawn_joined_layout(tree, room, draw)):
                    self.check(tree, layout, paper)
                    self.assertGreaterEqual(worst(tree, layout), plain_number(paper))
