"""Trees made of rules."""

from leafjudge.growing import rows_at
from leafjudge.questions import parted
from leafjudge.rules import all_answered

MOST_CASES_BACK = 500


def tree_of(form, rules):
    """A tree that answers each case as the rules do."""
    answers = all_answered(form, rules, MOST_CASES_BACK)
    return tree_for_all(form, list(answers.items()))


def tree_for_all(form, rows):
    """A tree that answers each of these rows right; no two have the same case, and they stand in the cases' order."""
    if len(set([row[1] for row in rows])) == 1:
        return ("say", rows[0][1])
    question = first_apart(form, rows)
    # Each knot parts its rows: so there are fewer knots than cases, and no way asks of a value twice.
    sides = parted(form, question, "no", rows)
    yes = tree_for_all(form, rows_at(rows, sides[0]))
    no = tree_for_all(form, rows_at(rows, sides[1]))
    return yes if yes == no else ("ask", question, "no", yes, no)


def first_apart(form, rows):
    """A question that holds of the first row and not of all, of the first field in which they are unlike."""
    case = rows[0][0]
    number = 0
    while all([row[0][number] == case[number] for row in rows]):
        number += 1
    # The rows are in order and None is last, so the first one has a value here.
    return ("is", form[0][number][0], case[number])
