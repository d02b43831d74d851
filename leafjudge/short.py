"""Rules shortened, with cases that show that they can be shortened no more."""

from leafjudge.cases import entries_of
from leafjudge.rules import all_answered, answered, fits, with_let

MOST_CASES_SHORTENED = 300


def shortened(form, rules):
    """A tuple (rules, shows): some of the rules, wider perhaps, that answer each case alike, and what shows each."""
    answers = all_answered(form, rules, MOST_CASES_SHORTENED)
    # Without some rule no other one can let in more than before; so none is widened again once some are left out.
    found = needed(form, widened(form, rules, answers), answers)
    return (found, shows_of(form, found, answers))


def widened(form, rules, answers):
    """The rules, each letting in all that it can while each case is answered alike."""
    told = []
    left = list(answers)
    # What a rule can let in hangs on itself and on those ahead alone, so each is widened once.
    for rule in rules:
        wide = widest(form, rule, cases_against(rule, left, answers))
        told.append(wide)
        left = not_fitted(form, wide, left)
    return told


def cases_against(rule, cases, answers):
    """Those of the cases that have another answer than the rule's."""
    return [case for case in cases if answers[case] != rule[1]]


def not_fitted(form, rule, cases):
    """Those of the cases that the rule doesn't fit."""
    return [case for case in cases if not fits(form, rule, case)]


def widest(form, rule, against):
    """The rule, letting in one thing more after another while it fits none of the cases against it."""
    told = rule
    for number, entry in not_let(form, rule):
        wide = wider(form, told, number, entry)
        if first_fitted(form, wide, against) is None:
            told = wide
    return told


def not_let(form, rule):
    """Tuples (number of a field, value or None) of all that the rule doesn't let in, in order."""
    told = []
    for number, field in enumerate(form[0]):
        told.extend([(number, entry) for entry in entries_of(field) if entry not in rule[0][number]])
    return told


def wider(form, rule, number, entry):
    """The rule, letting in this entry for the field of this number too."""
    let = rule[0][number]
    more = tuple([found for found in entries_of(form[0][number]) if found in let or found == entry])
    return (with_let(rule[0], number, more), rule[1])


def first_fitted(form, rule, cases):
    """The first of the cases that the rule fits; None where it fits none."""
    for case in cases:
        if fits(form, rule, case):
            return case
    return None


def needed(form, rules, answers):
    """The rules without those that can be left out."""
    told = list(rules)
    # From the last one on: a rule that those behind it don't make up for is needed, whichever ahead of it go.
    for number in range(len(rules) - 1, -1, -1):
        if case_for(form, told, number, answers) is None:
            told = without(told, number)
    return told


def case_for(form, rules, number, answers):
    """A case that the rules without that of this number answer otherwise, or not at all; None where there is none."""
    others = without(rules, number)
    for case in answers:
        if fits(form, rules[number], case) and answered(form, others, case) != answers[case]:
            return case
    return None


def without(rules, number):
    """The rules but that of this number."""
    return rules[:number] + rules[number + 1:]


def shows_of(form, rules, answers):
    """For each rule a tuple (case, more): why it can't be left out, and why it can't let in each thing more."""
    shows = []
    left = list(answers)
    for number, rule in enumerate(rules):
        more = more_of(form, rule, cases_against(rule, left, answers))
        shows.append((case_for(form, rules, number, answers), more))
        left = not_fitted(form, rule, left)
    return shows


def more_of(form, rule, against):
    """For each thing that the rule doesn't let in a tuple (field, value, case) with a case against it."""
    return [(number, entry, first_fitted(form, wider(form, rule, number, entry), against))
            for number, entry in not_let(form, rule)]
