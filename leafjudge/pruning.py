"""Prunings of a tree for rows, what they cost, and the least ones as the price of a knot rises."""

from leafjudge.counts import first_answer, fraction, is_less
from leafjudge.growing import rows_at
from leafjudge.least import cost_of
from leafjudge.questions import parted
from leafjudge.trees import is_leaf, knots_in


def is_pruning(form, tree, rows, other):
    """Whether the other tree is a pruning of the tree for the rows."""
    if is_leaf(tree):
        return other == tree
    if is_leaf(other):
        return other == first_leaf(form, rows)
    if other[:3] != tree[:3]:
        return False
    sides = rows_on_sides(form, tree, rows)
    return is_pruning(form, tree[3], sides[0], other[3]) and is_pruning(form, tree[4], sides[1], other[4])


def first_leaf(form, rows):
    """The leaf that a pruning has where these rows come."""
    return ("say", first_answer(form, rows))


def rows_on_sides(form, knot, rows):
    """The rows that go to the knot's yes, and those that go to its no: a list of two lists."""
    return [rows_at(rows, numbers) for numbers in parted(form, knot[1], knot[2], rows)]


def price_of(form, tree, rows, price):
    """What the tree costs for the rows at the price of a knot, a fraction."""
    return fraction(cost_of(form, tree, rows, prices_at(price)), price[1])


def prices_at(price):
    """The prices (slip, knot) that tell costs in parts of the price's bottom, so that they are whole."""
    return (price[1], price[0])


def least_pruning(form, tree, rows, price):
    """The pruning that costs least at the price, of those the one with the fewest knots."""
    return least_with_cost(form, tree, rows, prices_at(price))[1]


def least_with_cost(form, tree, rows, prices):
    """The least pruning with what it costs: a tuple (cost, pruning)."""
    if is_leaf(tree):
        return (cost_of(form, tree, rows, prices), tree)
    leaf = first_leaf(form, rows)
    leaf_cost = cost_of(form, leaf, rows, prices)
    sides = rows_on_sides(form, tree, rows)
    yes = least_with_cost(form, tree[3], sides[0], prices)
    no = least_with_cost(form, tree[4], sides[1], prices)
    cost = prices[1] + yes[0] + no[0]
    # Where both cost the same, the leaf has fewer knots.
    if leaf_cost <= cost:
        return (leaf_cost, leaf)
    return (cost, tree[:3] + (yes[1], no[1]))


def steps(form, tree, rows):
    """Tuples (price, tree): at 0, and at each greater price from which on the least pruning has fewer knots."""
    price = (0, 1)
    part = least_pruning(form, tree, rows, price)
    told = [(price, part)]
    while not is_leaf(part):
        price = next_price(form, part, rows)
        # The least pruning at a greater price is one of this pruning too, and there it is found sooner.
        part = least_pruning(form, part, rows, price)
        told.append((price, part))
    return told


def next_price(form, tree, rows):
    """The least price at which some knot, with all that is below it, costs as much as a leaf there."""
    prices = slips_and_prices(form, tree, rows)[1]
    lowest = prices[0]
    for price in prices:
        if is_less(price, lowest):
            lowest = price
    return lowest


def slips_and_prices(form, tree, rows):
    """A tuple (slips, prices): how many rows the tree answers otherwise; for each knot when a leaf costs no more.

    The tree is its own least pruning at a lower price, so each knot answers more rows right than a leaf there.
    """
    if is_leaf(tree):
        return (cost_of(form, tree, rows, (1, 0)), [])
    sides = rows_on_sides(form, tree, rows)
    yes = slips_and_prices(form, tree[3], sides[0])
    no = slips_and_prices(form, tree[4], sides[1])
    slips = yes[0] + no[0]
    saved = cost_of(form, first_leaf(form, rows), rows, (1, 0)) - slips
    return (slips, [fraction(saved, knots_in(tree))] + yes[1] + no[1])
