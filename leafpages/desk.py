"""The desk: a shelf that is told rows and answers each with a text."""

from leafpages.belows import from_below, number_of
from leafpages.errors import NoRoom, NoRow
from leafpages.halves import by_halves, cut
from leafpages.layouts import fault, first_parted, worst
from leafpages.rooms import least_room
from leafpages.shelf import Shelf
from leafpages.texts import read_layout, read_number, show_keys, show_layout, show_tree
from leafpages.trees import way_to

MOST_ROOM = 60


def say_put(shelf, given):
    shelf.put(given[0])
    return "ok"


def say_take(shelf, given):
    shelf.take(given[0])
    return "ok"


def say_has(shelf, given):
    return "yes" if shelf.has(given[0]) else "no"


def say_tree(shelf, given):
    return show_tree(shelf.tree())


def say_layout(shelf, given):
    return show_layout(shelf.layout())


def say_way(shelf, given):
    return show_keys(way_to(shelf.tree(), given[0])) or "none"


def say_worst(shelf, given):
    return str(shelf.worst())


def say_marks(shelf, given):
    return " ".join([f"{key}:{level},{size}" for key, level, size in shelf.table()]) or "none"


def say_least(shelf, given):
    return str(least_room(shelf.tree(), given[0])[0])


def say_halves(shelf, given):
    return show_keys(by_halves(shelf.tree())) or "none"


def say_pages(shelf, given):
    return show_layout(cut(by_halves(shelf.tree()), given[0], given[1]))


def say_below(shelf, given):
    tree = shelf.tree()
    return "0" if tree is None else str(number_of(from_below(tree, given[0])))


def show_ties(pairs):
    return " ".join([f"{up}-{kid}" for up, kid in pairs]) or "none"


def say_last(shelf, given):
    return " / ".join([show_ties(pairs) for pairs in shelf.last()])


def say_judge(shelf, given):
    tree = shelf.tree()
    layout = given[1]
    found = fault(tree, given[0], layout)
    if found is not None:
        return " ".join([str(part) for part in found])
    manner = "joined" if first_parted(tree, layout) is None else "parted"
    number = worst(tree, layout)
    return f"right {manner} {number}"


# By the first word of a row: what answers it, and what the words behind the first one are.
ROWS = {
    "put": (say_put, ("number",)),
    "take": (say_take, ("number",)),
    "has": (say_has, ("number",)),
    "tree": (say_tree, ()),
    "layout": (say_layout, ()),
    "way": (say_way, ("number",)),
    "worst": (say_worst, ()),
    "marks": (say_marks, ()),
    "least": (say_least, ("number",)),
    "halves": (say_halves, ()),
    "pages": (say_pages, ("room", "ahead")),
    "below": (say_below, ("room",)),
    "last": (say_last, ()),
    "judge": (say_judge, ("room", "layout")),
}


def words_of(row):
    if not isinstance(row, str):
        raise NoRow("no text")
    first = row.partition(" ")[0]
    if first not in ROWS:
        raise NoRow("no row begins with this word")
    kinds = ROWS[first][1]
    words = row.split(" ", len(kinds)) if "layout" in kinds else row.split(" ")
    if len(words) != 1 + len(kinds):
        raise NoRow("too few or too many words")
    return words


def read_word(kind, word, read_ahead):
    if kind == "layout":
        return read_layout(word)
    number = read_number(word)
    if kind == "room" and not 1 <= number <= MOST_ROOM:
        raise NoRoom("a room or a size is from 1 to 60")
    if kind == "ahead" and not 0 <= number < read_ahead[-1]:
        raise NoRoom("a number ahead is from 0 to below the size")
    return number


def read_words(kinds, words):
    given = []
    for kind, word in zip(kinds, words):
        given.append(read_word(kind, word, given))
    return given


class Desk:
    def __init__(self, room):
        self.shelf = Shelf(room)

    def say(self, row):
        words = words_of(row)
        answer = ROWS[words[0]][0]
        given = read_words(ROWS[words[0]][1], words[1:])
        return answer(self.shelf, given)
