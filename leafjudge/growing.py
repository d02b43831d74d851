"""Questions ranked by the doubt that they leave, and the trees that rows grow."""

from leafjudge.counts import added, common_bottom, doubt_of, first_answer, is_less
from leafjudge.questions import choices_of, is_proper, parted


def ranked(form, rows, least):
    """Tuples (question, stray, doubt) of all that part the rows properly, the least doubt first."""
    told = []
    for question, stray in choices_of(form):
        sides = parted(form, question, stray, rows)
        if is_proper(sides, least):
            doubts = [doubt_of(form, rows_at(rows, numbers)) for numbers in sides]
            told.append((question, stray, added(doubts[0], doubts[1])))
    # Over one bottom, fractions stand in the order of their tops; sorted leaves like ones in the order told.
    bottom = common_bottom([doubt for question, stray, doubt in told])
    return sorted(told, key=lambda entry: entry[2][0] * (bottom // entry[2][1]))


def rows_at(rows, numbers):
    """The rows of these numbers."""
    return [rows[number] for number in numbers]


def best(form, rows, least):
    """The first of the ranked tuples where it leaves less doubt than the rows have, else None."""
    told = ranked(form, rows, least)
    if told and is_less(told[0][2], doubt_of(form, rows)):
        return told[0]
    return None


def grown(form, rows, deep, least):
    """The tree that the rows grow, at most so deep."""
    found = best(form, rows, least) if deep > 0 else None
    if found is None:
        return ("say", first_answer(form, rows))
    sides = parted(form, found[0], found[1], rows)
    parts = [grown(form, rows_at(rows, numbers), deep - 1, least) for numbers in sides]
    return ("ask", found[0], found[1], parts[0], parts[1])
