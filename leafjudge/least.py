"""What trees cost for rows, and the tree that costs least."""

from leafjudge.errors import TooMany
from leafjudge.rowsets import RowSets
from leafjudge.trees import answer_of, knots_in

MOST_SETS = 400


def cost_of(form, tree, rows, prices):
    """What the rows that the tree answers otherwise, and its knots, cost together."""
    slips = [row for row in rows if answer_of(form, tree, row[0]) != row[1]]
    return prices[0] * len(slips) + prices[1] * knots_in(tree)


def least(form, rows, deep, prices):
    """A tree that costs least, at most so deep, with its cost and a table that shows it: a tuple of the three."""
    sets = RowSets(form, rows, prices)
    known = known_trees(sets, tuple(range(len(rows))), deep)
    top = tree_for(sets, known, tuple(range(len(rows))), deep)
    return (top[1], top[0], [key + (found[0],) for key, found in known.items()])


def known_trees(sets, numbers, deep):
    """For each set met, by the tuple (numbers, deep), a least tree with its cost: a tuple (cost, tree)."""
    known = {}
    # A set of greater depth is met ahead of its sides, and priced behind them.
    for key in reversed(sets_met(sets, numbers, deep)):
        known[key] = cheapest(sets, known, key[0], key[1])
    return known


def sets_met(sets, numbers, deep):
    """The sets met with deep above 0, a list of tuples (numbers, deep), the greater deep ahead."""
    met = {}
    level = [numbers]
    for left in range(deep, 0, -1):
        for found in level:
            met[(found, left)] = True
        if len(met) > MOST_SETS:
            raise TooMany("more than four hundred sets of rows")
        level = sides_of_all(sets, level) if left > 1 else []
    return list(met)


def sides_of_all(sets, level):
    """The sides to which these sets are parted properly, each once."""
    sides = {}
    for numbers in level:
        for question, stray, yes, no in sets.partings(numbers):
            sides[yes] = True
            sides[no] = True
    return list(sides)


def cheapest(sets, known, numbers, deep):
    """A least tree for the set, at most so deep (1 or more), with its cost: a tuple (cost, tree)."""
    told = sets.leaf_of(numbers)
    for question, stray, yes, no in sets.partings(numbers):
        one = tree_for(sets, known, yes, deep - 1)
        other = tree_for(sets, known, no, deep - 1)
        cost = sets.knot + one[0] + other[0]
        if cost < told[0]:
            told = (cost, ("ask", question, stray, one[1], other[1]))
    return told


def tree_for(sets, known, numbers, deep):
    """A least tree for a set met, with its cost: a leaf where deep is 0."""
    return known[(numbers, deep)] if deep > 0 else sets.leaf_of(numbers)
