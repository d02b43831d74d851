"""Counts of rows by their answers, and fractions."""


def counted(form, rows):
    """How many rows have each answer, in the answers' order."""
    told = [row[1] for row in rows]
    return [told.count(answer) for answer in form[1]]


def first_answer(form, rows):
    """The answer that most rows have, of like ones the first in the answers' order."""
    counts = counted(form, rows)
    return form[1][counts.index(max(counts))]


def doubt_of(form, rows):
    """For each row how many have another answer, all added up, divided by how many rows there are."""
    many = len(rows)
    if many == 0:
        return (0, 1)
    return fraction(sum([count * (many - count) for count in counted(form, rows)]), many)


def fraction(top, bottom):
    """The tuple (top, bottom) of the same worth which no whole number above 1 divides both."""
    shared = common_divisor(top, bottom)
    return (top // shared, bottom // shared)


def common_divisor(one, other):
    """The greatest whole number that divides both."""
    while other > 0:
        rest = one % other
        one = other
        other = rest
    return one


def added(one, other):
    """The sum of two fractions."""
    return fraction(one[0] * other[1] + other[0] * one[1], one[1] * other[1])


def is_less(one, other):
    """Whether the one fraction is less than the other."""
    return one[0] * other[1] < other[0] * one[1]


def common_bottom(fractions):
    """The least whole number that each fraction's bottom divides."""
    common = 1
    for found in fractions:
        common = common * found[1] // common_divisor(common, found[1])
    return common
