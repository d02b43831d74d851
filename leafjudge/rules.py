"""Rules: what they let in, how they answer cases, and the rules of a tree."""

from leafjudge.cases import all_cases, entries_of, many_cases
from leafjudge.errors import NoRule, TooMany
from leafjudge.forms import is_tuple_of
from leafjudge.questions import entries_to_yes, field_asked
from leafjudge.trees import is_leaf

MOST_RULES = 60


def is_rule(form, thing):
    """Whether the thing is a tuple (lets, answer)."""
    if not is_tuple_of(thing, 2, 2):
        return False
    return are_lets(form, thing[0]) and thing[1] in form[1]


def are_lets(form, thing):
    """Whether the thing has, for each field in order, a tuple of what it lets in there."""
    fields = form[0]
    if not is_tuple_of(thing, len(fields), len(fields)):
        return False
    return all([is_let(field, let) for field, let in zip(fields, thing)])


def is_let(field, thing):
    """Whether the thing is a tuple of one or more of the field's values and None, in their order."""
    if not is_tuple_of(thing, 1, len(entries_of(field))):
        return False
    return thing == tuple([entry for entry in entries_of(field) if entry in thing])


def fits(form, rule, case):
    """Whether the rule lets in what the case has for each field."""
    return all([entry in let for let, entry in zip(rule[0], case)])


def answered(form, rules, case):
    """The answer of the first rule that fits the case; None where none does."""
    for rule in rules:
        if fits(form, rule, case):
            return rule[1]
    return None


def all_answered(form, rules, most):
    """Each case's answer by the rules, a dict in the cases' order; refused above so many cases, or where one lacks."""
    if many_cases(form) > most:
        raise TooMany("more cases than are gone through")
    answers = {}
    for case in all_cases(form):
        answers[case] = answered(form, rules, case)
        if answers[case] is None:
            raise NoRule(case)
    return answers


def rules_of(form, tree):
    """The rules of the tree, one for each leaf to which some case comes."""
    rules = rules_within(form, tree, whole_lets(form))
    if len(rules) > MOST_RULES:
        raise TooMany("more than sixty rules")
    return rules


def whole_lets(form):
    """The lets that let in each case."""
    return tuple([entries_of(field) for field in form[0]])


def rules_within(form, tree, lets):
    """A rule for each leaf to which some case of these lets comes, letting in just those cases; yes ahead of no."""
    if is_leaf(tree):
        return [(lets, tree[1])]
    number = field_asked(form, tree[1])
    held = entries_to_yes(tree[1], tree[2], form[0][number])
    yes = tuple([entry for entry in lets[number] if entry in held])
    no = tuple([entry for entry in lets[number] if entry not in held])
    rules = []
    for let, part in ((yes, tree[3]), (no, tree[4])):
        if len(let) > 0:
            rules.extend(rules_within(form, part, with_let(lets, number, let)))
    return rules


def with_let(lets, number, let):
    """The lets with another one for the field of this number."""
    return lets[:number] + (let,) + lets[number + 1:]
