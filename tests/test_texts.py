"""leafpages.texts: point 27."""

import random
import re
import unittest

import helper
from leafpages.errors import LeafError, NoText
from leafpages.texts import read_layout, read_tree, show_layout, show_tree
from leafpages.trees import is_tree

NUMBER = r"(?:0|-?[1-9][0-9]{0,59})"
PAGE = rf"(?:{NUMBER}(?: {NUMBER})*)?"
NINES = "9" * 60
NO_TEXTS = (None, 0, 5, True, False, [], ["."], ["", ""], (), (".",), {}, {".": "."}, (None, 1, None), [[1]], b".", b"")
# Numbers that are written otherwise than point 27 tells.
WRONG_NUMBERS = ("", "-", "--1", "-0", "+1", "+0", "00", "01", "-01", "007", "1-", "1-2", "1.0", "1.", "1_0", "1,0",
                 "0x1", "1e3", "a", "None", "\u00b2", "\u0663", "\uff11", "1\n", "\t1", "1" + NINES, "-1" + NINES,
                 "0" * 61, "9" * 6000, "-" + "9" * 5000)
LONG_NUMBERS = ("9" * 60, "-" + "9" * 60, "1" + "0" * 59, "-1" + "0" * 59, "9" * 59)


def plain_is_tree_text(text):
    """Whether it is the text of a tree, by taking away one knot without kids after another."""
    keys = [int(word) for word in re.findall(rf"{NUMBER}(?![0-9])", text)]
    shorter = None
    while shorter != text:
        shorter, text = text, re.sub(rf"\(\. {NUMBER} \.\)", ".", text)
    return text == "." and len(keys) <= 60 and all(low < high for low, high in zip(keys, keys[1:]))


def plain_is_layout_text(text):
    keys = re.findall("[0-9]+", text)
    return bool(re.fullmatch(rf"{PAGE}(?:\|{PAGE})*", text)) and len(keys) <= 60 and text.count("|") < 60


def changed_texts(text, signs, draw, count):
    """The text with a sign left out, put in, exchanged or told twice somewhere."""
    for step in range(count):
        place = draw.randrange(len(text) + 1)
        sign = draw.choice(signs)
        yield draw.choice((text[:place] + text[place + 1:], text[:place] + sign + text[place:],
                           text[:place] + sign + text[place + 1:], text[:place] + text[place:place + 1] + text[place:],
                           text[:place], text[place:], text + sign, sign + text))


def drawn_pages(draw):
    """A layout of none to sixty pages, some without keys, keys perhaps twice; never one page without keys."""
    count = draw.choice((0, 1, 2, 3, 10, 59, 60))
    keys = [draw.choice((0, draw.randrange(-9, 10), draw.randrange(-10 ** 60 + 1, 10 ** 60)))
            for place in range(draw.choice((1, 2, 20, 60)))]
    pages = [[] for place in range(count)]
    for key in keys if pages else []:
        draw.choice(pages).append(key)
    return pages


class Refusing(unittest.TestCase):
    def refused(self, read, text):
        with self.assertRaises(LeafError, msg=repr(text)) as caught:
            read(text)
        self.assertIs(type(caught.exception), NoText)
        self.assertIsInstance(caught.exception, ValueError)


class Trees(Refusing):
    def test_ordinary(self):
        for tree, text in ((None, "."), ((None, 5, None), "(. 5 .)"), ((None, 0, None), "(. 0 .)"),
                           ((None, -12, (None, 7, None)), "(. -12 (. 7 .))"),
                           (((None, 1, None), 2, (None, 3, None)), "((. 1 .) 2 (. 3 .))")):
            self.assertEqual(show_tree(tree), text)
            self.assertEqual(read_tree(text), tree)

    def test_many_trees(self):
        for tree in helper.many_trees():
            text = show_tree(tree)
            self.assertIs(plain_is_tree_text(text), True)
            self.assertEqual(read_tree(text), tree)
            self.assertEqual(show_tree(read_tree(text)), text)

    def test_all_small_trees_have_texts_of_their_own(self):
        texts = {}
        for count in range(7):
            for tree in helper.shapes(list(range(-2, count - 2))):
                texts[show_tree(tree)] = tree
                self.assertEqual(read_tree(show_tree(tree)), tree)
        self.assertEqual(len(texts), 1 + 1 + 2 + 5 + 14 + 42 + 132)

    def test_kinds(self):
        self.assertIs(type(show_tree(None)), str)
        self.assertIsNone(read_tree("."))
        tree = read_tree("((. -1 .) 0 .)")
        self.assertIs(type(tree), tuple)
        self.assertIs(type(tree[1]), int)
        self.assertIs(is_tree(tree), True)

    def test_keys_of_just_sixty_figures(self):
        for word in LONG_NUMBERS:
            self.assertEqual(read_tree(f"(. {word} .)"), (None, int(word), None))
            self.assertEqual(show_tree((None, int(word), None)), f"(. {word} .)")

    def test_sixty_keys_and_sixty_one(self):
        for make in (helper.low_tree, helper.left_leaning, helper.right_leaning, helper.zigzag):
            for keys in (list(range(60)), list(range(-10 ** 60 + 1, -10 ** 60 + 61))):
                text = show_tree(make(keys))
                self.assertEqual(read_tree(text), make(keys))
            for count in (61, 62, 90):
                self.refused(read_tree, show_tree(make(list(range(count)))))

    def test_what_is_no_text(self):
        for thing in NO_TEXTS:
            self.refused(read_tree, thing)

    def test_numbers_written_otherwise(self):
        for word in WRONG_NUMBERS:
            self.refused(read_tree, f"(. {word} .)")
            self.refused(read_tree, f"((. {word} .) {NINES} .)")
            self.refused(read_tree, f"(. -{NINES} (. {word} .))")

    def test_blanks_and_brackets_too_many_or_too_few(self):
        for text in ("", " ", "..", ". ", " .", "(", ")", "()", "(.)", "(..)", "(. .)", "(.  .)", "(. 5)", "(5 .)",
                     "(5)", "5", "(. 5 .", ". 5 .)", ". 5 .", "(.5 .)", "(. 5.)", "(.5.)", "( . 5 .)", "(. 5 . )",
                     "(.  5 .)", "(. 5  .)", "(. 5 .) ", " (. 5 .)", "((. 5 .))", "(. 5 .))", "((. 5 .)", "(. 5 .).",
                     ".(. 5 .)", "(. 5 .)(. 6 .)", "(. 5 .) (. 6 .)", "(. 5 6)", "(4 5 6)", "(. 5 .,)", "[. 5 .]",
                     "{. 5 .}", "(. 5 .)\n", "(.\t5 .)", "(. 5 .)|", "(. 5 (. 6 .)", "(. 5 . 6 .)", "(. 5 6 .)",
                     "(- 5 .)", "(None 5 None)", "(. 5 ())", "(() 5 .)", "none", "None", "(. (. 5 .) .)"):
            self.refused(read_tree, text)

    def test_keys_out_of_order(self):
        for text in ("(. 5 (. 5 .))", "((. 5 .) 5 .)", "(. 5 (. 4 .))", "((. 6 .) 5 .)", "(. -1 (. -2 .))",
                     "((. 1 (. 3 .)) 2 .)", "(. 2 ((. 1 .) 3 .))", "(. 2 ((. 2 .) 3 .))", "((. 1 .) 2 (. 0 .))",
                     "(. 0 (. 0 .))", "((. 1 (. 9 (. 4 .))) 8 .)"):
            self.refused(read_tree, text)

    def test_long_texts(self):
        for text in ("(" * 6000, "(" * 3000 + ")" * 3000, "(" * 61, "(" * 60, "." * 6000, " " * 6000, ")" * 6000,
                     "(. 1 " * 1200, "(. 1 " * 60, "(. 1 " * 60 + ")" * 60, "((. 1 .) " * 600, "1" * 6000,
                     "(. " + "1" * 5990 + " .)", "(" * 2000 + "." + " 1 .)" * 800):
            self.refused(read_tree, text)

    def test_texts_with_a_sign_changed(self):
        draw = random.Random(50)
        read = 0
        for tree in helper.many_trees():
            text = show_tree(tree)
            for changed in changed_texts(text, "(). -0159+", draw, 60):
                if plain_is_tree_text(changed):
                    self.assertEqual(show_tree(read_tree(changed)), changed)
                    read += changed != text
                else:
                    self.refused(read_tree, changed)
        self.assertGreater(read, 50)

    def test_all_short_texts(self):
        words = [""]
        for length in range(6):
            for text in words:
                if plain_is_tree_text(text):
                    self.assertEqual(show_tree(read_tree(text)), text)
                else:
                    self.refused(read_tree, text)
            words = [text + sign for text in words for sign in "(). 1-0"]


class Layouts(Refusing):
    def test_ordinary(self):
        for layout, text in (([], ""), ([[5]], "5"), ([[0]], "0"), ([[1, 2, 3], [4], [5, -6]], "1 2 3|4|5 -6"),
                             ([[2, 1]], "2 1"), ([[1, 1], [1]], "1 1|1")):
            self.assertEqual(show_layout(layout), text)
            self.assertEqual(read_layout(text), layout)

    def test_pages_without_keys(self):
        for layout, text in (([[], []], "|"), ([[], [], []], "||"), ([[1], []], "1|"), ([[], [1]], "|1"),
                             ([[1], [], [2, 3]], "1||2 3"), ([[], [0], []], "|0|"), ([[]] * 60, "|" * 59)):
            self.assertEqual(show_layout(layout), text)
            self.assertEqual(read_layout(text), layout)

    def test_the_text_without_signs(self):
        self.assertEqual(read_layout(""), [])
        self.assertEqual(show_layout([]), "")

    def test_many_layouts(self):
        draw = random.Random(51)
        for step in range(300):
            layout = drawn_pages(draw)
            if layout != [[]]:
                text = show_layout(layout)
                self.assertIs(plain_is_layout_text(text), True)
                self.assertEqual(read_layout(text), layout)
                self.assertEqual(show_layout(read_layout(text)), text)

    def test_layouts_of_many_trees(self):
        draw = random.Random(52)
        for tree in helper.many_trees():
            for room in (1, 3, 60):
                layout = helper.drawn_joined_layout(tree, room, draw)
                self.assertEqual(read_layout(show_layout(layout)), layout)

    def test_kinds(self):
        layout = read_layout("1 0||-2")
        self.assertIs(type(layout), list)
        self.assertEqual([type(page) for page in layout], [list, list, list])
        self.assertEqual({type(key) for page in layout for key in page}, {int})
        self.assertIs(type(show_layout([])), str)

    def test_keys_of_just_sixty_figures(self):
        for word in LONG_NUMBERS:
            self.assertEqual(read_layout(word), [[int(word)]])
            self.assertEqual(read_layout(f"|{word} {word}"), [[], [int(word), int(word)]])
            self.assertEqual(show_layout([[int(word)], []]), f"{word}|")

    def test_sixty_keys_and_sixty_one(self):
        for between in (" ", "|"):
            self.assertEqual(sum(read_layout(between.join([NINES] * 60)), []), [int(NINES)] * 60)
            self.assertEqual(sum(read_layout(between.join(["7"] * 60)), []), [7] * 60)
            for count in (61, 62, 400):
                self.refused(read_layout, between.join(["7"] * count))
        self.assertEqual(len(read_layout("|".join(["1 2"] * 30))), 30)
        self.refused(read_layout, "|".join(["1 2"] * 30) + "|3")
        self.refused(read_layout, "|".join(["1 2"] * 30) + " 3")
        self.refused(read_layout, "|".join(["1 2 3"] * 21))

    def test_sixty_pages_and_sixty_one(self):
        for text in ("|" * 59, "1" + "|" * 59, "|" * 59 + "1", "|".join(["0"] * 60)):
            self.assertEqual(len(read_layout(text)), 60)
            self.refused(read_layout, text + "|")
            self.refused(read_layout, "|" + text)
        self.refused(read_layout, "|" * 6000)

    def test_what_is_no_text(self):
        for thing in NO_TEXTS:
            self.refused(read_layout, thing)

    def test_numbers_written_otherwise(self):
        for word in WRONG_NUMBERS:
            if word:
                self.refused(read_layout, word)
            self.refused(read_layout, f"1 {word}")
            self.refused(read_layout, f"{word} 1")
            self.refused(read_layout, f"|1 {word}|")

    def test_blanks_and_strokes(self):
        for text in (" ", "  ", " 1", "1 ", "1  2", "1 |2", "1| 2", "1 | 2", "| ", " |", "| |", "|| 1", "1,2", "1;2",
                     "1\n2", "1\t2", "1 2\n", "\n", "[1]", "(. 1 .)", ".", "1.", "1/2", "a", "1 a",
                     "none", "-|-", "1 -", "-"):
            self.refused(read_layout, text)

    def test_texts_with_a_sign_changed(self):
        draw = random.Random(53)
        read = 0
        for step in range(200):
            text = show_layout(drawn_pages(draw))
            for changed in changed_texts(text, "|| -0159+", draw, 20):
                if plain_is_layout_text(changed):
                    self.assertEqual(show_layout(read_layout(changed)), changed)
                    read += changed != text
                else:
                    self.refused(read_layout, changed)
        self.assertGreater(read, 50)

    def test_all_short_texts(self):
        words = [""]
        for length in range(6):
            for text in words:
                if plain_is_layout_text(text):
                    self.assertEqual(show_layout(read_layout(text)), text)
                else:
                    self.refused(read_layout, text)
            words = [text + sign for text in words for sign in "| 1-0"]
