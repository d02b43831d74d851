"""Sets of rows, by their numbers: what leaves cost for them, and how questions part them."""

from leafjudge.counts import counted, first_answer
from leafjudge.questions import choices_of, is_proper, side_of


class RowSets:
    """Rows with their prices, of which sets of numbers are asked; a set is a tuple of numbers, rising."""

    def __init__(self, form, rows, prices):
        self.form = form
        self.kept = list(rows)
        self.slip = prices[0]
        self.knot = prices[1]
        # Each row's side is found here once, since a row stands in many sets.
        self.choices = [choice + (sides_of_rows(form, choice, rows),) for choice in choices_of(form)]

    def leaf_of(self, numbers):
        """The leaf that costs least for these rows: a tuple (cost, leaf)."""
        rows = [self.kept[number] for number in numbers]
        slips = len(rows) - max(counted(self.form, rows))
        return (self.slip * slips, ("say", first_answer(self.form, rows)))

    def partings(self, numbers):
        """Tuples (question, stray, yes, no) of all that part these rows properly, yes and no sets."""
        told = []
        for question, stray, sides in self.choices:
            yes = tuple([number for number in numbers if sides[number] == "yes"])
            no = tuple([number for number in numbers if sides[number] == "no"])
            if is_proper((yes, no), 1):
                told.append((question, stray, yes, no))
        return told


def sides_of_rows(form, choice, rows):
    """Each row's side by a tuple (question, stray), in the rows' order."""
    return [side_of(form, choice[0], choice[1], row[0]) for row in rows]
