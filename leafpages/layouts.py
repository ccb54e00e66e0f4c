"""Layouts: lists of pages, a page a list of keys of a tree."""

from leafpages.trees import keys_of, up_of, way_to, with_kids


def page_numbers(layout):
    numbers = {}
    for number, page in enumerate(layout):
        for key in page:
            numbers[key] = number
    return numbers


def wrong_key(tree, layout):
    keys = keys_of(tree)
    ahead = {}
    for number, page in enumerate(layout):
        for key in page:
            if key not in keys:
                return ("strange", number, key)
            if key in ahead:
                return ("twice", number, key)
            ahead[key] = True
    return None


def wrong_room(room, layout):
    for number, page in enumerate(layout):
        if len(page) > room:
            return ("room", number)
    return None


def lacking_key(tree, layout):
    numbers = page_numbers(layout)
    for key in keys_of(tree):
        if key not in numbers:
            return ("lacks", key)
    return None


def fault(tree, room, layout):
    return wrong_key(tree, layout) or wrong_room(room, layout) or lacking_key(tree, layout)


def is_joined(tree, page):
    without_up = [key for key in page if up_of(tree, key) not in page]
    return len(without_up) == 1


def first_parted(tree, layout):
    for number, page in enumerate(layout):
        if page and not is_joined(tree, page):
            return number
    return None


def pages_tied(tree, tied):
    # In one page, just the knots that lead to one another by steps from an up to a kid that is tied to it.
    pages = {}
    for key, kids in with_kids(tree):
        page = [key]
        for kid in kids:
            if kid in tied:
                page.extend(pages.pop(kid))
        pages[key] = page
    return sorted([sorted(page) for page in pages.values()])


def numbers_along(tree, layout, key):
    numbers = page_numbers(layout)
    return [numbers[knot] for knot in way_to(tree, key)]


def pages_met(tree, layout, key):
    met = {}
    for number in numbers_along(tree, layout, key):
        met[number] = True
    return list(met)


def page_turns(tree, layout, key):
    turns = 0
    lying_open = None
    for number in numbers_along(tree, layout, key):
        if number != lying_open:
            turns += 1
            lying_open = number
    return turns


def worst(tree, layout):
    return max([len(pages_met(tree, layout, key)) for key in keys_of(tree)], default=0)


def cost(tree, layout, weights):
    return sum([weight * len(pages_met(tree, layout, key)) for key, weight in zip(keys_of(tree), weights)])


def together(room, layout):
    # A page begins a new one only where it fits into none ahead, and pages only grow:
    # so at the end no two of them fit into one.
    told = []
    for page in layout:
        fitting = [other for other in told if len(other) + len(page) <= room]
        if fitting:
            fitting[0].extend(page)
        elif page:
            told.append(list(page))
    return told
