"""Points 1 and 2, for all of the program: nothing handed in is changed, what is told is the asker's own."""

import copy
import random
import unittest

import helper
from leafpages import belows, halves, layouts, marks, rooms, shelf, store, texts, trees, weights
from leafpages.errors import LeafError

TREE = helper.drawn_tree(list(range(-9, 12)), random.Random(8))
KEYS = helper.plain_keys(TREE)
ROOM = 4
LAYOUT = [[]] + helper.drawn_joined_layout(TREE, ROOM, random.Random(9)) + [[]]
TABLE = [(key,) + mark for key, mark in sorted(helper.plain_marks(TREE, ROOM).items())]
WEIGHTS = [3 * place for place in range(len(KEYS))]
COSTS = weights.cheapest(TREE, ROOM, WEIGHTS)[2]
ORDER = halves.by_halves(TREE)
PAPER = belows.from_below(TREE, ROOM)
TOP, PAGES = store.stored(TREE, LAYOUT)
FULL_TREE = helper.low_tree(list(range(60)))

CALLS = (
    (trees.is_tree, (TREE,)),
    (trees.is_tree, ([None, [1], {2: [3]}],)),
    (trees.is_tree, ((None, [1], None),)),
    (trees.tree_of, (KEYS[::2] + KEYS[1::2],)),
    (trees.tree_of, (KEYS + [0],)),
    (trees.keys_of, (TREE,)),
    (trees.way_to, (TREE, KEYS[5])),
    (trees.way_to, (TREE, 99)),
    (trees.height, (TREE,)),
    (trees.put, (TREE, 99)),
    (trees.put, (TREE, KEYS[3])),
    (trees.put, (FULL_TREE, 60)),
    (trees.taken, (TREE, TREE[1])),
    (trees.taken, (TREE, 99)),
    (trees.up_of, (TREE, KEYS[7])),
    (trees.below, (TREE, TREE[1])),
    (trees.mirrored, (TREE,)),
    (layouts.fault, (TREE, ROOM, LAYOUT)),
    (layouts.fault, (TREE, 1, LAYOUT)),
    (layouts.fault, (TREE, ROOM, [[1, 99], [1]])),
    (layouts.fault, (TREE, ROOM, [[1, 2], [1]])),
    (layouts.fault, (TREE, ROOM, [[1, 2], []])),
    (layouts.first_parted, (TREE, LAYOUT)),
    (layouts.first_parted, (TREE, [KEYS[::2], KEYS[1::2]])),
    (layouts.pages_met, (TREE, LAYOUT, KEYS[-1])),
    (layouts.page_turns, (TREE, LAYOUT, KEYS[-1])),
    (layouts.worst, (TREE, LAYOUT)),
    (layouts.cost, (TREE, LAYOUT, WEIGHTS)),
    (layouts.together, (ROOM, LAYOUT)),
    (layouts.together, (1, [[1], [], [2]])),
    (layouts.together, (60, [[1], [], [2]])),
    (marks.marks, (TREE, ROOM)),
    (marks.by_marks, (TREE, ROOM)),
    (marks.by_marks, (TREE, 1)),
    (marks.shows_worst, (TREE, ROOM, TABLE, 1)),
    (marks.shows_worst, (TREE, ROOM, TABLE[::-1], 1)),
    (weights.burden, (TREE, WEIGHTS, TREE[1])),
    (weights.cheapest, (TREE, ROOM, WEIGHTS)),
    (weights.cheapest, (TREE, 1, WEIGHTS)),
    (weights.cheapest, (None, ROOM, [])),
    (weights.shows_cost, (TREE, ROOM, WEIGHTS, COSTS, 1)),
    (weights.shows_cost, (TREE, ROOM, WEIGHTS, COSTS[::-1], 1)),
    (halves.by_halves, (TREE,)),
    (halves.cut, (ORDER, 5, 2)),
    (halves.cut, (ORDER, 60, 0)),
    (halves.cut, ([], 60, 0)),
    (halves.pieces, (TREE, 3)),
    (halves.pieces, (TREE, 60)),
    (halves.most_pieces, (17, 5)),
    (belows.number_of, (PAPER,)),
    (belows.holds, (TREE, ROOM, PAPER)),
    (belows.holds, (TREE, ROOM, ("part", 99, (PAPER,) * ROOM))),
    (belows.from_below, (TREE, ROOM)),
    (belows.led, (TREE, LAYOUT, PAPER)),
    (store.stored, (TREE, LAYOUT)),
    (store.looked_up, (PAGES.__getitem__, TOP, KEYS[4])),
    (store.nearest, (PAGES.__getitem__, TOP, 99)),
    (store.between, (PAGES.__getitem__, TOP, KEYS[4], 99)),
    (shelf.ties, (TREE, ROOM)),
    (shelf.put_ties, (TREE, ROOM, 99)),
    (shelf.put_ties, (None, ROOM, 99)),
    (shelf.taken_ties, (TREE, ROOM, TREE[1])),
    (shelf.taken_ties, ((None, 5, None), ROOM, 5)),
    (rooms.least_room, (TREE, 3)),
    (rooms.least_room, (TREE, 60)),
    (rooms.least_room, (None, 1)),
    (rooms.least_room, (TREE, 0)),
    (texts.show_tree, (TREE,)),
    (texts.show_layout, (LAYOUT,)),
    (texts.show_layout, ([],)),
    (texts.read_tree, (texts.show_tree(TREE),)),
    (texts.read_tree, ("(. 2 (. 1 .))",)),
    (texts.read_tree, (["."],)),
    (texts.read_layout, (texts.show_layout(LAYOUT),)),
    (texts.read_layout, ("",)),
    (texts.read_layout, ("||",)),
    (texts.read_layout, ([[1]],)),
)

INTERFACE = (
    (trees, "is_tree tree_of keys_of way_to height put taken up_of below mirrored"),
    (layouts, "fault first_parted pages_met page_turns worst cost together"),
    (marks, "marks by_marks shows_worst"),
    (weights, "burden cheapest shows_cost"),
    (halves, "by_halves cut pieces most_pieces"),
    (belows, "number_of holds from_below led"),
    (store, "stored looked_up nearest between"),
    (shelf, "ties put_ties taken_ties"),
    (rooms, "least_room"),
    (texts, "show_tree show_layout read_tree read_layout"),
)


def answer(call, handed):
    try:
        return call(*handed)
    except LeafError as refusal:
        return type(refusal)


def spoil(thing):
    """Changes every list within, the inner ones too."""
    if isinstance(thing, (list, tuple)):
        for inner in thing:
            spoil(inner)
    if isinstance(thing, list):
        thing.insert(0, 12345)
        thing.append(-12345)


def lists_within(thing):
    """The list itself, where it is one, and every list within."""
    found = [thing] if isinstance(thing, list) else []
    if isinstance(thing, (list, tuple)):
        for inner in thing:
            found += lists_within(inner)
    return found


class Own(unittest.TestCase):
    def test_what_is_handed_in_stays_as_it_is(self):
        for call, handed in CALLS:
            kept = copy.deepcopy(handed)
            answer(call, handed)
            self.assertEqual(handed, kept, call)

    def test_what_was_told_changes_no_later_answer_when_it_is_changed(self):
        for call, handed in CALLS:
            handed = copy.deepcopy(handed)
            kept = copy.deepcopy(handed)
            told = answer(call, handed)
            first = copy.deepcopy(told)
            spoil(told)
            self.assertEqual(handed, kept, call)
            self.assertEqual(answer(call, handed), first, call)

    def test_what_was_handed_in_changes_no_answer_when_it_is_changed_later(self):
        for call, handed in CALLS:
            changed = copy.deepcopy(handed)
            told = answer(call, changed)
            first = copy.deepcopy(told)
            spoil(changed)
            self.assertEqual(told, first, call)
            self.assertEqual(answer(call, copy.deepcopy(handed)), first, call)

    def test_a_list_changed_behind_a_call_is_asked_as_it_is_then(self):
        layout = [[1], [2]]
        tree = (None, 1, (None, 2, None))
        self.assertEqual(layouts.worst(tree, layout), 2)
        self.assertEqual(layouts.together(2, layout), [[1, 2]])
        layout[0].append(layout.pop()[0])
        self.assertEqual(layouts.worst(tree, layout), 1)
        keys = [1, 2]
        self.assertEqual(trees.tree_of(keys), tree)
        keys.reverse()
        self.assertEqual(trees.tree_of(keys), ((None, 1, None), 2, None))

    def test_told_lists_are_neither_lists_told_before_nor_lists_handed_in(self):
        for call, handed in CALLS:
            first = lists_within(answer(call, handed))
            others = lists_within(answer(call, handed)) + lists_within(handed) + lists_within((PAGES, LAYOUT))
            self.assertFalse({id(one) for one in first} & {id(other) for other in others}, call)
            self.assertEqual(len({id(one) for one in first}), len(first), call)

    def test_asked_again_in_another_order_all_is_told_alike(self):
        told = [answer(call, handed) for call, handed in CALLS]
        again = [answer(call, handed) for call, handed in reversed(CALLS)]
        self.assertEqual(told, again[::-1])

    def test_every_function_of_the_interface_is_called(self):
        called = {call for call, handed in CALLS}
        for module, names in INTERFACE:
            for name in names.split():
                self.assertIn(getattr(module, name), called)

    def test_truths_are_no_whole_numbers(self):
        for truth in (True, False):
            self.assertIs(trees.is_tree((None, truth, None)), False)
            self.assertIs(trees.is_tree((None, -1, (None, truth, None))), False)
        self.assertIs(trees.is_tree((None, 1, None)), True)
        self.assertIs(trees.is_tree((None, 0, None)), True)
