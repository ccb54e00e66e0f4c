"""A shelf: a tree that is kept with its layout by marks, and the ties that come and go with its keys."""

from leafpages.marks import by_marks, marks, marks_by_key, tied_pairs, worst_by_marks
from leafpages.trees import knot_at, put, taken, with_key


def ties(tree, room):
    return sorted(tied_pairs(tree, marks_by_key(tree, room)))


def come_and_gone(before, after, room):
    ties_before = ties(before, room)
    ties_after = ties(after, room)
    come = [tie for tie in ties_after if tie not in ties_before]
    gone = [tie for tie in ties_before if tie not in ties_after]
    return (come, gone)


def put_ties(tree, room, key):
    # Not with put: here a full tree isn't refused.
    return come_and_gone(tree, with_key(tree, key), room)


def taken_ties(tree, room, key):
    return come_and_gone(tree, taken(tree, key), room)


class Shelf:
    def __init__(self, room):
        self.room = room
        self.kept = None
        self.changed = ([], [])

    def keep(self, tree):
        self.changed = come_and_gone(self.kept, tree, self.room)
        self.kept = tree

    def put(self, key):
        self.keep(put(self.kept, key))

    def take(self, key):
        self.keep(taken(self.kept, key))

    def tree(self):
        return self.kept

    def table(self):
        return marks(self.kept, self.room)

    def layout(self):
        return by_marks(self.kept, self.room)

    def worst(self):
        return worst_by_marks(self.kept, self.room)

    def has(self, key):
        return knot_at(self.kept, key) is not None

    def last(self):
        return (list(self.changed[0]), list(self.changed[1]))
