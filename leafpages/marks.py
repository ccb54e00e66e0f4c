"""Marks: the joined layout whose worst way meets fewest pages, and tables that show it."""

from leafpages.layouts import pages_tied
from leafpages.trees import keys_of, with_kids


def mark_from(kid_marks, room):
    if not kid_marks:
        return (1, 1)
    level = max([mark[0] for mark in kid_marks])
    size = 1 + sum([mark[1] for mark in kid_marks if mark[0] == level])
    return (level, size) if size <= room else (level + 1, 1)


def marks_by_key(tree, room):
    told = {}
    for key, kids in with_kids(tree):
        told[key] = mark_from([told[kid] for kid in kids], room)
    return told


def marks(tree, room):
    told = marks_by_key(tree, room)
    return [(key, told[key][0], told[key][1]) for key in keys_of(tree)]


def tied_pairs(tree, told):
    # A knot has the level of its greatest kids just where they are tied to it, else a higher one.
    pairs = []
    for key, kids in with_kids(tree):
        pairs.extend([(key, kid) for kid in kids if told[kid][0] == told[key][0]])
    return pairs


def by_marks(tree, room):
    pairs = tied_pairs(tree, marks_by_key(tree, room))
    return pages_tied(tree, [kid for key, kid in pairs])


def top_level(tree, told):
    return 0 if tree is None else told[tree[1]][0]


def worst_by_marks(tree, room):
    return top_level(tree, marks_by_key(tree, room))


def shows_worst(tree, room, table, number):
    if [row[0] for row in table] != keys_of(tree):
        return False
    told = {}
    for key, level, size in table:
        told[key] = (level, size)
    for key, kids in with_kids(tree):
        if told[key] > mark_from([told[kid] for kid in kids], room):
            return False
    return number <= top_level(tree, told)
