"""Trees of questions: what one is, the ways of cases in it, and its places."""

from leafjudge.errors import NoPlace
from leafjudge.forms import is_tuple_of
from leafjudge.questions import SIDES, is_question, side_of

MOST_DEEP = 30
MOST_KNOTS = 500


def is_tree(form, thing):
    """Whether the thing is a tree of the form."""
    level = [thing]
    within = 0
    knots = 0
    while level and within <= MOST_DEEP:
        others = [part for part in level if not is_leaf_of(form, part)]
        knots += len(others)
        if knots > MOST_KNOTS or not all([is_knot_of(form, part) for part in others]):
            return False
        level = [knot[3] for knot in others] + [knot[4] for knot in others]
        within += 1
    return level == []


def is_leaf_of(form, thing):
    """Whether the thing is a leaf that says an answer of the form."""
    return is_tuple_of(thing, 2, 2) and thing[0] == "say" and thing[1] in form[1]


def is_knot_of(form, thing):
    """Whether the thing is a knot of the form, whatever its sides are."""
    if not is_tuple_of(thing, 5, 5) or thing[0] != "ask":
        return False
    return is_question(form, thing[1]) and thing[2] in SIDES


def is_leaf(tree):
    """Whether the tree is a leaf, not a knot."""
    return tree[0] == "say"


def on_side(knot, side):
    """The part of the tree on this side of the knot."""
    return knot[3] if side == "yes" else knot[4]


def depth_of(tree):
    """How many questions deep the tree is."""
    if is_leaf(tree):
        return 0
    return 1 + max(depth_of(tree[3]), depth_of(tree[4]))


def knots_in(tree):
    """How many knots the tree has."""
    if is_leaf(tree):
        return 0
    return 1 + knots_in(tree[3]) + knots_in(tree[4])


def way_of(form, tree, case):
    """The case's way from the top to a leaf, a list of tuples (question, side)."""
    way = []
    part = tree
    while not is_leaf(part):
        side = side_of(form, part[1], part[2], case)
        way.append((part[1], side))
        part = on_side(part, side)
    return way


def sides_of_way(form, tree, case):
    """The place of the leaf to which the case comes."""
    return tuple([side for question, side in way_of(form, tree, case)])


def answer_of(form, tree, case):
    """The answer of the leaf to which the case comes."""
    return part_at(tree, sides_of_way(form, tree, case))[1]


def part_at(tree, place):
    """The part of the tree at the place."""
    part = tree
    for side in place:
        if is_leaf(part) or side not in SIDES:
            raise NoPlace("the tree has no such place")
        part = on_side(part, side)
    return part


def coming(form, tree, rows, place):
    """The numbers, rising, of the rows that come to the place."""
    # Asked for its refusal: a place that is none is refused though no row might come there.
    part_at(tree, place)
    ways = [sides_of_way(form, tree, row[0]) for row in rows]
    return [number for number, sides in enumerate(ways) if sides[:len(place)] == place]
