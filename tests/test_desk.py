"""leafpages.desk: point 28."""

import random
import unittest

import helper
from leafpages.belows import from_below, holds, number_of
from leafpages.desk import Desk
from leafpages.errors import Full, LeafError, NoRoom, NoRow, NoText, NotThere, There
from leafpages.halves import by_halves, cut
from leafpages.layouts import fault, first_parted, worst
from leafpages.marks import by_marks, marks
from leafpages.rooms import least_room
from leafpages.shelf import Shelf
from leafpages.texts import show_layout, show_tree
from leafpages.trees import way_to

NINES = "9" * 60
LONG = "1" * 61
# Words that are no numbers as point 27 writes them.
WRONG = ("x", "-", "--1", "-0", "+1", "00", "01", "-01", "1.0", "1_0", "\u00b2", "\u0663", "1\n", "\t1", LONG,
         "-" + LONG, "9" * 5000)
# Rows that tell what a desk keeps, and rows that tell all the rest of it.
KEPT = ("tree", "last", "layout", "worst", "marks")
ASKING = KEPT + ("halves", "least 1", "least 2", "least 9", "pages 4 3", "pages 1 0", "pages 60 59", "below 1",
                 "below 2", "below 60", "has 0", "has 3", "way 0", "way 3", "judge 3 1 2|3", "judge 60 ")


def desk_of(room, keys):
    desk = Desk(room)
    for key in keys:
        desk.say(f"put {key}")
    return desk


def seven():
    return desk_of(3, (4, 2, 6, 1, 3, 5, 7))


def all_said(desk, rows=ASKING):
    return [desk.say(row) for row in rows]


def ties_text(ties):
    return " ".join(f"{up}-{kid}" for up, kid in ties) or "none"


class Answers(unittest.TestCase):
    def said(self, desk, row, text):
        told = desk.say(row)
        self.assertEqual(told, text, row)
        self.assertIs(type(told), str)

    def test_put_take_and_has(self):
        desk = Desk(2)
        self.said(desk, "has 5", "no")
        self.said(desk, "put 5", "ok")
        self.said(desk, "has 5", "yes")
        self.said(desk, "has -5", "no")
        self.said(desk, "put -5", "ok")
        self.said(desk, "put 0", "ok")
        self.said(desk, "has 0", "yes")
        self.said(desk, "tree", "((. -5 (. 0 .)) 5 .)")
        self.said(desk, "take 5", "ok")
        self.said(desk, "has 5", "no")
        self.said(desk, "tree", "(. -5 (. 0 .))")

    def test_tree_and_layout(self):
        desk = seven()
        self.said(desk, "tree", "(((. 1 .) 2 (. 3 .)) 4 ((. 5 .) 6 (. 7 .)))")
        self.said(desk, "layout", "1 2 3|4|5 6 7")
        self.said(desk, "worst", "2")

    def test_way(self):
        desk = seven()
        self.said(desk, "way 3", "4 2 3")
        self.said(desk, "way 4", "4")
        self.said(desk, "way 8", "4 6 7")
        self.said(desk, "way -8", "4 2 1")

    def test_marks(self):
        desk = seven()
        self.said(desk, "marks", "1:1,1 2:1,3 3:1,1 4:2,1 5:1,1 6:1,3 7:1,1")
        self.said(desk_of(1, (0, -1)), "marks", "-1:1,1 0:2,1")

    def test_least(self):
        desk = seven()
        self.said(desk, "least 1", "7")
        self.said(desk, "least 2", "3")
        self.said(desk, "least 3", "1")
        self.said(desk, "least 4", "1")
        self.said(desk, f"least {NINES}", "1")

    def test_halves_and_pages(self):
        desk = seven()
        self.said(desk, "halves", "4 2 1 3 6 5 7")
        self.said(desk, "pages 3 1", "4 2|1 3 6|5 7")
        self.said(desk, "pages 3 0", "4 2 1|3 6 5|7")
        self.said(desk, "pages 1 0", "4|2|1|3|6|5|7")
        self.said(desk, "pages 60 59", "4|2 1 3 6 5 7")
        self.said(desk, "pages 60 53", "4 2 1 3 6 5 7")

    def test_below(self):
        desk = seven()
        self.said(desk, "below 1", "3")
        self.said(desk, "below 2", "3")
        self.said(desk, "below 3", "2")
        self.said(desk, "below 5", "1")
        self.said(desk, "below 60", "1")

    def test_last(self):
        desk = Desk(3)
        self.said(desk, "last", "none / none")
        desk.say("put 4")
        self.said(desk, "last", "none / none")
        desk.say("put -2")
        self.said(desk, "last", "4--2 / none")
        desk.say("put 6")
        self.said(desk, "last", "4-6 / none")
        desk.say("put -7")
        self.said(desk, "last", "-2--7 / 4--2 4-6")
        desk.say("take 6")
        self.said(desk, "last", "4--2 / none")
        desk.say("take 4")
        self.said(desk, "last", "none / 4--2")

    def test_asking_is_no_deed(self):
        desk = desk_of(2, (1, 2))
        for row in ASKING + ("judge 1 1 2", "way 2", "has 2"):
            desk.say(row)
            self.said(desk, "last", "1-2 / none")

    def test_judge(self):
        desk = seven()
        self.said(desk, "judge 3 1 2 3|4|5 6 7", "right joined 2")
        self.said(desk, "judge 60 1 2 3|4|5 6 7", "right joined 2")
        self.said(desk, "judge 7 7 6 5 4 3 2 1", "right joined 1")
        self.said(desk, "judge 1 1|2|3|4|5|6|7", "right joined 3")
        self.said(desk, "judge 3 ||1 2 3|4|5 6 7|", "right joined 2")
        self.said(desk, "judge 4 1 3 5 7|2 4 6", "right parted 2")
        self.said(desk, "judge 2 1 2|3 4|5 6|7", "right parted 3")
        self.said(desk, "judge 2 1 2 3|4|5 6 7", "room 0")
        self.said(desk, "judge 2 1 2|3|4|5 6 7", "room 3")
        self.said(desk, "judge 3 1 2 3|4|5 6", "lacks 7")
        self.said(desk, "judge 3 2 3|4|5 6", "lacks 1")
        self.said(desk, "judge 3 ", "lacks 1")
        self.said(desk, "judge 3 |", "lacks 1")
        self.said(desk, "judge 3 1 2 3|4|5 -6 7", "strange 2 -6")
        self.said(desk, "judge 1 0 1 2 3", "strange 0 0")
        self.said(desk, "judge 1 1 2 3|4|5 6 3", "twice 2 3")
        self.said(desk, "judge 1 1 1", "twice 0 1")
        self.said(desk, f"judge 3 {NINES}", f"strange 0 {NINES}")

    def test_the_empty_tree(self):
        for desk in (Desk(1), Desk(60), desk_of(4, (1, 2))):
            if desk.say("has 1") == "yes":
                desk.say("take 2")
                desk.say("take 1")
            for row, text in (("tree", "."), ("layout", ""), ("worst", "0"), ("marks", "none"), ("halves", "none"),
                              ("last", "none / none"), ("least 1", "1"), ("least 60", "1"), ("pages 1 0", ""),
                              ("pages 60 59", ""), ("below 1", "0"), ("below 60", "0"), ("has 0", "no"),
                              ("way 0", "none"), ("judge 1 ", "right joined 0"), ("judge 1 |", "right joined 0"),
                              ("judge 60 0", "strange 0 0")):
                self.said(desk, row, text)

    def test_one_key(self):
        for key in (0, -1, int(NINES), -int(NINES)):
            desk = desk_of(1, (key,))
            for row, text in (("tree", f"(. {key} .)"), ("layout", f"{key}"), ("worst", "1"), ("marks", f"{key}:1,1"),
                              ("halves", f"{key}"), ("last", "none / none"), ("least 1", "1"),
                              ("pages 5 4", f"{key}"), ("below 1", "1"), (f"has {key}", "yes"),
                              (f"way {key}", f"{key}"), ("way 7", f"{key}"), (f"judge 1 {key}", "right joined 1"),
                              (f"judge 9 |{key}|", "right joined 1"), ("judge 1 ", f"lacks {key}")):
                self.said(desk, row, text)

    def test_sixty_keys(self):
        keys = list(range(60))
        desk = desk_of(60, keys)
        self.said(desk, "layout", " ".join(str(key) for key in keys))
        self.said(desk, "worst", "1")
        self.said(desk, "least 1", "60")
        self.said(desk, "below 1", "60")
        self.said(desk, "tree", "".join(f"(. {key} " for key in keys) + "." + ")" * 60)
        self.said(desk, "judge 60 " + " ".join(str(key) for key in keys), "right joined 1")
        self.said(desk, "judge 1 " + "|".join(str(key) for key in keys), "right joined 60")


class AsTheStages(unittest.TestCase):
    def check(self, desk, shelf, draw):
        tree = shelf.tree()
        self.assertEqual(desk.say("tree"), show_tree(tree))
        self.assertEqual(desk.say("layout"), show_layout(shelf.layout()))
        self.assertEqual(desk.say("worst"), str(shelf.worst()))
        self.assertEqual(desk.say("marks"), " ".join(f"{k}:{m},{s}" for k, m, s in shelf.table()) or "none")
        self.assertEqual(desk.say("last"), " / ".join(ties_text(ties) for ties in shelf.last()))
        self.assertEqual(desk.say("halves"), " ".join(str(key) for key in by_halves(tree)) or "none")
        number, size, room = draw.randrange(1, 9), draw.randrange(1, 61), draw.choice((1, 2, 3, 60))
        ahead = draw.randrange(size)
        self.assertEqual(desk.say(f"least {number}"), str(least_room(tree, number)[0]))
        self.assertEqual(desk.say(f"pages {size} {ahead}"), show_layout(cut(by_halves(tree), size, ahead)))
        papers = 0 if tree is None else number_of(from_below(tree, room))
        self.assertEqual(desk.say(f"below {room}"), str(papers))

    def test_many_deeds_two_side_by_side(self):
        draw = random.Random(60)
        keys = helper.drawn_keys(40, draw)
        pairs = [(Desk(room), Shelf(room)) for room in (3, 7)]
        for step in range(120):
            desk, shelf = draw.choice(pairs)
            key = draw.choice(keys)
            self.assertEqual(desk.say(f"way {key}"), " ".join(map(str, way_to(shelf.tree(), key))) or "none")
            self.assertEqual(desk.say(f"has {key}"), "yes" if shelf.has(key) else "no")
            deed = helper.put_or_take(shelf, key)
            self.assertEqual(desk.say(f"{deed} {key}"), "ok")
            for told, kept in pairs:
                self.check(told, kept, draw)

    def test_many_trees(self):
        draw = random.Random(61)
        for tree in helper.many_trees():
            for room in (1, 4, 60):
                desk = desk_of(room, helper.outline(tree))
                self.assertEqual(desk.say("tree"), show_tree(tree))
                self.assertEqual(desk.say("layout"), show_layout(by_marks(tree, room)))
                self.assertEqual(desk.say("marks"), " ".join(f"{k}:{m},{s}" for k, m, s in marks(tree, room)) or "none")
                self.check(desk, self.shelf_of(room, tree), draw)

    def shelf_of(self, room, tree):
        shelf = Shelf(room)
        for key in helper.outline(tree):
            shelf.put(key)
        return shelf

    def test_below_is_the_number_of_a_paper_that_holds(self):
        for tree in helper.many_trees()[1:]:
            desk = desk_of(5, helper.outline(tree))
            for room in (1, 2, 3):
                paper = from_below(tree, room)
                self.assertIs(holds(tree, room, paper), True)
                self.assertEqual(desk.say(f"below {room}"), str(number_of(paper)))


class Judge(unittest.TestCase):
    def check(self, desk, tree, room, layout):
        """Tells what was wrong, or what kind of right it was."""
        found = fault(tree, room, layout)
        if found is not None:
            text = " ".join(str(part) for part in found)
        else:
            joined = first_parted(tree, layout) is None
            text = f"right {'joined' if joined else 'parted'} {worst(tree, layout)}"
            self.assertEqual(worst(tree, layout), helper.plain_worst(tree, layout))
        before = desk.say("layout")
        self.assertEqual(desk.say(f"judge {room} {show_layout(layout)}"), text)
        self.assertEqual(desk.say("layout"), before)
        return " ".join(text.split(" ")[:2]) if found is None else found[0]

    def spoiled(self, layout, draw):
        layout = [list(page) for page in layout]
        page = draw.choice(layout)
        manner = draw.randrange(4)
        if manner == 0 and page:
            page.pop(draw.randrange(len(page)))
        elif manner == 1:
            page.insert(draw.randrange(len(page) + 1), draw.randrange(-10 ** 30, 10 ** 30))
        elif manner == 2:
            page.insert(draw.randrange(len(page) + 1), draw.choice([key for other in layout for key in other]))
        else:
            layout = [sum(layout[:2], [])] + layout[2:]
        return layout

    def test_many_layouts_whatever_the_room_of_the_desk(self):
        draw = random.Random(62)
        kinds = []
        for tree in helper.many_trees()[1:]:
            for desk_room in (1, 7):
                desk = desk_of(desk_room, helper.outline(tree))
                for room in (1, 2, 7, 60):
                    joined = helper.drawn_joined_layout(tree, room, draw)
                    drawn = helper.drawn_layout(tree, room, draw)
                    for layout in (joined, drawn, by_marks(tree, room), self.spoiled(joined, draw)):
                        if layout != [[]] and len(layout) <= 60 and sum(map(len, layout)) <= 60:
                            kinds.append(self.check(desk, tree, room, layout))
        self.assertEqual(set(kinds), {"right joined", "right parted", "strange", "twice", "room", "lacks"})

    def test_all_layouts_of_small_trees(self):
        for tree in helper.shapes([0, 1, 2, 3]):
            desk = desk_of(2, helper.outline(tree))
            for layout in helper.partitions([0, 1, 2, 3]):
                for room in (1, 2, 3, 4):
                    self.check(desk, tree, room, layout)


class Refusals(unittest.TestCase):
    def refused(self, desk, row, refusal):
        before = all_said(desk, KEPT)
        with self.assertRaises(LeafError, msg=repr(row)) as caught:
            desk.say(row)
        self.assertIs(type(caught.exception), refusal, repr(row))
        self.assertIsInstance(caught.exception, ValueError)
        self.assertEqual(all_said(desk, KEPT), before)

    def test_what_is_no_text(self):
        for desk in (Desk(3), seven()):
            for row in (None, 5, True, False, [], ["tree"], ["put", "5"], ("tree",), {}, {"tree": 1}, b"tree"):
                self.refused(desk, row, NoRow)

    def test_an_unknown_word(self):
        desk = seven()
        for row in ("", " ", "  ", "5", "Tree", "TREE", "trees", "tre", "tree.", "tree\n", "\ttree", "give 5", "putt 5",
                    "put5", "put,5", "Put 5", "judges 3 1", "none", "ok", "quit", "room", "table", "take\t5", "put\n5",
                    "say tree", "TEXT", "K", "5 put", "has\u00a05"):
            self.refused(desk, row, NoRow)

    def test_too_few_words(self):
        desk = seven()
        for row in ("put", "take", "has", "way", "least", "below", "pages", "pages 3", "judge", "judge 3", "judge 61",
                    "judge x", "judge ", "pages x", "pages 61"):
            self.refused(desk, row, NoRow)

    def test_too_many_words(self):
        desk = seven()
        for row in ("tree 1", "layout 1", "worst 1", "marks 1", "halves 1", "last 1", "put 8 9", "take 1 2", "has 1 2",
                    "way 1 2", "least 1 2", "below 1 2", "pages 3 1 1", "put x y", "below 0 0", "take 9 9", "put 4 4",
                    "tree tree", "pages 0 0 0", "least 0 0"):
            self.refused(desk, row, NoRow)

    def test_two_blanks_and_blanks_at_the_ends(self):
        desk = seven()
        for row in ("put  8", "take  1", "has  1", "way  1", "least  1", "below  1", "pages  3 1", "pages 3  1",
                    " tree", "tree ", "tree  ", "layout ", "put 8 ", " put 8", "pages 3 1 ", "last ", " judge 3 1",
                    "put  x"):
            self.refused(desk, row, NoRow)

    def test_a_word_without_signs_is_no_number(self):
        desk = seven()
        for row in ("put ", "take ", "has ", "way ", "least ", "below ", "pages  1", "pages 3 ", "judge  1 2"):
            self.refused(desk, row, NoText)

    def test_numbers_written_otherwise(self):
        desk = seven()
        for word in WRONG:
            for row in ("put", "take", "has", "way", "least", "below"):
                self.refused(desk, f"{row} {word}", NoText)
            self.refused(desk, f"pages {word} 0", NoText)
            self.refused(desk, f"pages 3 {word}", NoText)
            self.refused(desk, f"judge {word} 1 2 3|4|5 6 7", NoText)
            self.refused(desk, f"judge 3 1 2 3|4|5 6 {word}", NoText)

    def test_numbers_of_just_sixty_figures(self):
        desk = Desk(3)
        for word in (NINES, "-" + NINES):
            self.assertEqual(desk.say(f"put {word}"), "ok")
            self.assertEqual(desk.say(f"has {word}"), "yes")
            self.assertEqual(desk.say(f"way {word}").split(" ")[-1], word)
            self.refused(desk, f"put {word}0", NoText)
            self.refused(desk, f"below {word}", NoRoom)
            self.refused(desk, f"pages {word} 0", NoRoom)
            self.refused(desk, f"pages 60 {word}", NoRoom)
            self.refused(desk, f"judge {word} ", NoRoom)
        self.assertEqual(desk.say(f"least {NINES}"), "1")
        self.refused(desk, f"least -{NINES}", NoRoom)

    def test_rooms_and_sizes(self):
        for desk in (Desk(3), seven()):
            for word in ("0", "-1", "61", "-60", "100"):
                self.refused(desk, f"below {word}", NoRoom)
                self.refused(desk, f"pages {word} 0", NoRoom)
                self.refused(desk, f"judge {word} 1 2 3|4|5 6 7", NoRoom)
            for word in ("1", "60"):
                for row in (f"below {word}", f"pages {word} 0", f"judge {word} "):
                    self.assertIs(type(desk.say(row)), str)

    def test_numbers_ahead(self):
        for desk in (Desk(3), seven()):
            for row in ("pages 1 1", "pages 3 3", "pages 3 4", "pages 60 60", "pages 60 -1", "pages 1 -1",
                        "pages 1 60"):
                self.refused(desk, row, NoRoom)
            for row in ("pages 1 0", "pages 3 2", "pages 60 59", "pages 60 0"):
                self.assertIs(type(desk.say(row)), str)

    def test_least_of_a_number_below_one(self):
        for desk in (Desk(3), seven()):
            for word in ("0", "-1", "-60"):
                self.refused(desk, f"least {word}", NoRoom)

    def test_texts_of_no_layout(self):
        desk = seven()
        for text in (" ", " 1", "1 ", "1  2", "1 |2", "1| 2", "x", "1 x", "(. 1 .)", ".", "-0", "+1", "01", "1,2",
                     "|" * 60, " ".join(["1"] * 61), "|".join(["1"] * 61), LONG, "1 2 3|4|5 6 7\n"):
            self.refused(desk, f"judge 3 {text}", NoText)

    def test_the_one_told_first_goes_first(self):
        desk = seven()
        for row, refusal in (("pages x 99", NoText), ("pages 61 x", NoRoom), ("pages 0 x", NoRoom),
                             ("pages 3 x", NoText), ("pages 0 0", NoRoom), ("pages x x", NoText),
                             ("pages 0 -1", NoRoom), ("pages 01 99", NoText), (f"pages {LONG} 0", NoText),
                             (f"pages 61 {LONG}", NoRoom), ("pages -1 -0", NoRoom), ("pages -0 -1", NoText),
                             ("judge 61 x", NoRoom), ("judge x y", NoText), ("judge 0 1  2", NoRoom),
                             ("judge 0 1 2", NoRoom), (f"judge {LONG} 1 2", NoText), ("judge 60 x", NoText),
                             ("judge 0 ", NoRoom), ("judge 61", NoRow), ("pages 61", NoRow), ("pages x", NoRow),
                             ("put x 4", NoRow), ("give x", NoRow), ("give", NoRow), ("tree x", NoRow)):
            self.refused(desk, row, refusal)

    def test_there_and_not_there(self):
        desk = seven()
        for key in (1, 4, 7):
            self.refused(desk, f"put {key}", There)
        for key in (0, -4, 8, int(NINES)):
            self.refused(desk, f"take {key}", NotThere)
        self.refused(Desk(1), "take 0", NotThere)

    def test_full(self):
        desk = desk_of(4, helper.outline(helper.low_tree(list(range(60)))))
        self.refused(desk, "put 60", Full)
        self.refused(desk, "put -1", Full)
        self.refused(desk, "put 59", There)
        self.refused(desk, "put 060", NoText)
        self.refused(desk, "put 60 ", NoRow)
        self.refused(desk, "take 60", NotThere)
        self.assertEqual(desk.say("take 59"), "ok")
        self.assertEqual(desk.say("put 60"), "ok")

    def test_behind_refusals_deeds_go_on(self):
        desk = seven()
        for row in ("put 4", "take 9", "put x", "judge 0 ", "nothing", "pages 3 3"):
            with self.assertRaises(LeafError):
                desk.say(row)
        self.assertEqual(desk.say("last"), "6-7 / none")
        self.assertEqual(desk.say("take 4"), "ok")
        self.assertEqual(desk.say("last"), "none / 6-5")
        self.assertEqual(desk.say("tree"), "(((. 1 .) 2 (. 3 .)) 5 (. 6 (. 7 .)))")


class Own(unittest.TestCase):
    def test_two_desks_side_by_side(self):
        first, other = Desk(3), Desk(3)
        first.say("put 1")
        self.assertEqual(other.say("tree"), ".")
        other.say("put 2")
        self.assertEqual(first.say("tree"), "(. 1 .)")
        self.assertEqual(Desk(3).say("tree"), ".")

    def test_asked_again_all_is_told_alike(self):
        desk = seven()
        first = all_said(desk)
        self.assertEqual([desk.say(row) for row in reversed(ASKING)], first[::-1])
        self.assertEqual(all_said(desk), first)
        self.assertEqual(all_said(seven()), first)
