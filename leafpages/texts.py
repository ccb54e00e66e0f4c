"""Texts: trees and layouts written, and read where they are written just so."""

from leafpages.errors import NoText
from leafpages.trees import MOST_KEYS, is_tree

MOST_PAGES = 60
MOST_FIGURES = 60
FIGURES = "0123456789"


def show_tree(tree):
    if tree is None:
        return "."
    left = show_tree(tree[0])
    key = tree[1]
    right = show_tree(tree[2])
    return f"({left} {key} {right})"


def show_keys(keys):
    return " ".join([str(key) for key in keys])


def show_layout(layout):
    return "|".join([show_keys(page) for page in layout])


def has_figures_alone(word):
    return 1 <= len(word) <= MOST_FIGURES and all([sign in FIGURES for sign in word])


def read_number(word):
    figures = word[1:] if word.startswith("-") else word
    # Written again, a number shows noughts ahead and -0.
    if not has_figures_alone(figures) or str(int(word)) != word:
        raise NoText("no number, or one written otherwise")
    return int(word)


def behind(text, place, sign):
    if text[place:place + 1] != sign:
        raise NoText("another sign than the one that is due")
    return place + 1


def tree_from(text, place):
    # Told with the place behind it.
    if text[place:place + 1] == ".":
        return (None, place + 1)
    left = tree_from(text, behind(text, place, "("))
    key_place = behind(text, left[1], " ")
    word = text[key_place:].partition(" ")[0]
    right = tree_from(text, behind(text, key_place + len(word), " "))
    return ((left[0], read_number(word), right[0]), behind(text, right[1], ")"))


def read_tree(text):
    # Brackets are counted first, so that no text leads deeper down than a tree does.
    if not isinstance(text, str) or text.count("(") > MOST_KEYS:
        raise NoText("no text, or one with more keys than a tree has")
    told = tree_from(text, 0)
    if told[1] != len(text) or not is_tree(told[0]):
        raise NoText("signs behind the tree, or its keys are out of order")
    return told[0]


def read_page(text):
    return [read_number(word) for word in text.split(" ")] if text else []


def read_layout(text):
    if not isinstance(text, str):
        raise NoText("no text")
    layout = [read_page(part) for part in text.split("|")] if text else []
    if len(layout) > MOST_PAGES or sum([len(page) for page in layout]) > MOST_KEYS:
        raise NoText("more pages or keys than a layout has")
    return layout
