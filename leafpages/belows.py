"""From below: papers that show how many pages some way meets in each layout, joined or not.

A paper is ("knot", key) or ("part", key, papers).
"""

from leafpages.layouts import page_numbers
from leafpages.trees import below, knot_at, way_to, with_kids


def number_of(paper):
    number = 1
    while paper[0] == "part":
        paper = paper[2][0]
        number += 1
    return number


def stand_apart(tree, key, others):
    beneath = below(tree, key)
    for other in others:
        way = way_to(tree, other)
        if other not in beneath or len([one for one in others if one in way]) > 1:
            return False
    return True


def number_held(tree, room, paper):
    # None where the paper doesn't hold. Its keys are looked at ahead of its papers: where they stand apart no knot
    # is come to twice, so a paper that stands many times within a wrong one is not gone through as often.
    if knot_at(tree, paper[1]) is None:
        return None
    if paper[0] == "knot":
        return 1
    papers = paper[2]
    if len(papers) != room or not stand_apart(tree, paper[1], [inner[1] for inner in papers]):
        return None
    numbers = [number_held(tree, room, inner) for inner in papers]
    if None in numbers or len(set(numbers)) > 1:
        return None
    return numbers[0] + 1


def holds(tree, room, paper):
    return number_held(tree, room, paper) is not None


def gathered(told, kids):
    papers = []
    for kid in kids:
        papers.extend(told[kid])
    return papers


def knot_papers(tree):
    told = {}
    for key, kids in with_kids(tree):
        told[key] = gathered(told, kids) or [("knot", key)]
    return told


def part_made(key, room, papers):
    return [("part", key, tuple(papers[:room]))] if len(papers) >= room else []


def part_papers(tree, room, papers):
    # A key gives way to those below it that have a paper of the number, too: so each list has as many papers as
    # there can be, at or below its key, that stand apart.
    told = {}
    for key, kids in with_kids(tree):
        told[key] = gathered(told, kids) or part_made(key, room, gathered(papers, kids))
    return told


def from_below(tree, room):
    top = tree[1]
    papers = knot_papers(tree)
    greater = part_papers(tree, room, papers)
    while greater[top]:
        papers = greater
        greater = part_papers(tree, room, papers)
    return papers[top][0]


def is_clear_of(tree, key, page):
    return all([key not in way_to(tree, other) for other in page])


def led(tree, layout, paper):
    numbers = page_numbers(layout)
    while paper[0] == "part":
        page = layout[numbers[paper[1]]]
        paper = [inner for inner in paper[2] if is_clear_of(tree, inner[1], page)][0]
    return paper[1]
