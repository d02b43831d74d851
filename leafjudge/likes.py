"""Whether two trees answer each case alike, and what shows it."""

from leafjudge.errors import TooMany
from leafjudge.rules import rules_within, whole_lets

MOST_PAIRS = 2000


def alike(form, one, other):
    """("unlike", case) of a case that the trees answer unlike, or ("alike", pieces)."""
    pairs = pairs_of(form, one, other)
    if len(pairs) > MOST_PAIRS:
        raise TooMany("more than two thousand pairs of leaves")
    for lets, answer, found in pairs:
        if answer != found:
            return ("unlike", tuple([let[0] for let in lets]))
    return ("alike", [lets for lets, answer, found in pairs])


def pairs_of(form, one, other):
    """For each pair of leaves with a case in common the lets of these cases and both answers: tuples of three."""
    pairs = []
    for lets, answer in rules_within(form, one, whole_lets(form)):
        pairs.extend([(both, answer, found) for both, found in rules_within(form, other, lets)])
    return pairs
