"""Cases and rows of a form, and all the cases that there may be."""

from leafjudge.errors import TooMany
from leafjudge.forms import is_tuple_of

MOST_CASES = 2000


def is_case(form, thing):
    """Whether the thing has, for each field in order, one of its values or None."""
    fields = form[0]
    if not is_tuple_of(thing, len(fields), len(fields)):
        return False
    return all([value in entries_of(field) for field, value in zip(fields, thing)])


def is_row(form, thing):
    """Whether the thing is a tuple (case, answer)."""
    if not is_tuple_of(thing, 2, 2):
        return False
    return is_case(form, thing[0]) and thing[1] in form[1]


def many_cases(form):
    """How many cases there may be."""
    many = 1
    for field in form[0]:
        many = many * len(entries_of(field))
    return many


def all_cases(form):
    """The list of all cases: by the first field that is unlike, in its order, None last."""
    if many_cases(form) > MOST_CASES:
        raise TooMany("more than two thousand cases")
    cases = [()]
    for field in form[0]:
        cases = longer_by(cases, entries_of(field))
    return cases


def entries_of(field):
    """What a case may have for the field: its values in their order, then None."""
    return field[1] + (None,)


def longer_by(beginnings, entries):
    """Each beginning with each entry behind it, the beginnings' order ahead of the entries'."""
    longer = []
    for beginning in beginnings:
        for entry in entries:
            longer.append(beginning + (entry,))
    return longer
