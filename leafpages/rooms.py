"""Rooms: the least one for which the worst way meets at most so many pages."""

from leafpages.errors import NoRoom
from leafpages.marks import by_marks, marks, worst_by_marks


def least_room(tree, number):
    if number < 1:
        raise NoRoom("no room is for a number below 1")
    room = 1
    while worst_by_marks(tree, room) > number:
        room += 1
    table = None if room == 1 else marks(tree, room - 1)
    return (room, by_marks(tree, room), table)
