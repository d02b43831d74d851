"""Tables that show of sets of rows what each tree costs at least."""

from leafjudge.forms import is_tuple_of, is_whole
from leafjudge.rowsets import RowSets

MOST_TABLE_DEEP = 3


def holds(form, rows, prices, table):
    """Whether this is a table, and each of its costs is borne out."""
    if not is_table(len(rows), table):
        return False
    sets = RowSets(form, rows, prices)
    costs = {}
    for numbers, deep, cost in table:
        costs[(numbers, deep)] = cost
    return all([is_borne_out(sets, costs, numbers, deep) for numbers, deep in costs])


def is_table(many, table):
    """Whether this is a table over so many rows: no two tuples with the same numbers and deep."""
    if not all([is_entry(many, entry) for entry in table]):
        return False
    return len(set([entry[:2] for entry in table])) == len(table)


def is_entry(many, entry):
    """Whether this is a tuple (numbers, deep, cost) of a table over so many rows."""
    if not is_tuple_of(entry, 3, 3) or not is_tuple_of(entry[0], 1, many):
        return False
    if not all([is_whole(number) for number in entry[0] + entry[1:]]):
        return False
    return are_rising(entry[0], many) and 1 <= entry[1] <= MOST_TABLE_DEEP and entry[2] >= 0


def are_rising(numbers, many):
    """Whether these are numbers of rows, of which there are so many, rising."""
    return list(numbers) == [number for number in range(many) if number in numbers]


def is_borne_out(sets, costs, numbers, deep):
    """Whether no leaf, and no knot by what its sides cost at least, costs less than is told for the set."""
    cost = costs[(numbers, deep)]
    if cost > sets.leaf_of(numbers)[0]:
        return False
    for question, stray, yes, no in sets.partings(numbers):
        sides = [side_cost(sets, costs, side, deep - 1) for side in (yes, no)]
        if None in sides or cost > sets.knot + sum(sides):
            return False
    return True


def side_cost(sets, costs, numbers, deep):
    """What the side of a knot costs at least; None where the table should tell it and doesn't."""
    return costs.get((numbers, deep)) if deep > 0 else sets.leaf_of(numbers)[0]
