"""Books, which keep rows by numbers and the tree that they grow, and the places at which trees differ."""

from leafjudge.cases import is_row
from leafjudge.errors import NoRow, NoSuch, TooMany
from leafjudge.growing import grown
from leafjudge.trees import is_leaf

MOST_ROWS = 60


class Book:
    """Rows that come and go, and the tree that they grow, at most so deep and for a least number."""

    def __init__(self, form, deep, least):
        self.form = form
        self.deep = deep
        self.least = least
        self.numbered = {}
        self.following = 0
        self.standing = grown(form, [], deep, least)

    def put(self, row):
        """Puts the row in at the next number; tells a tuple (number, places)."""
        self.refuse_no_row(row)
        if len(self.numbered) >= MOST_ROWS:
            raise TooMany("more than sixty rows")
        number = self.following
        self.following += 1
        self.numbered[number] = row
        return (number, self.grow_anew())

    def out(self, number):
        """Takes the row of this number out; tells a tuple (row, places)."""
        self.refuse_no_number(number)
        row = self.numbered.pop(number)
        return (row, self.grow_anew())

    def turn(self, number, row):
        """Puts the row in the place of that of this number; tells a tuple (row that stood there, places)."""
        self.refuse_no_number(number)
        self.refuse_no_row(row)
        stood = self.numbered[number]
        self.numbered[number] = row
        return (stood, self.grow_anew())

    def rows(self):
        """Tuples (number, row), rising by number."""
        # Numbers only grow, and a turned row keeps its place: the rows stand by number as they came.
        return list(self.numbered.items())

    def tree(self):
        """The tree that the rows grow."""
        return self.standing

    def refuse_no_row(self, thing):
        """Refuses what is no row of the form."""
        if not is_row(self.form, thing):
            raise NoRow("no row of the form")

    def refuse_no_number(self, number):
        """Refuses a number that is no row's."""
        if number not in self.numbered:
            raise NoSuch("no row has this number")

    def grow_anew(self):
        """Grows the tree of the rows that are there now; tells the places at which it became another one."""
        stood = self.standing
        self.standing = grown(self.form, list(self.numbered.values()), self.deep, self.least)
        return changed(stood, self.standing)


def changed(one, other):
    """The places at which the one tree became the other, yes ahead of no."""
    if is_leaf(one) or is_leaf(other) or one[:3] != other[:3]:
        return [] if one == other else [()]
    on_yes = [("yes",) + place for place in changed(one[3], other[3])]
    on_no = [("no",) + place for place in changed(one[4], other[4])]
    return on_yes + on_no
