"""Rules shortened, and what shows it: point 24."""

import copy
import inspect
import unittest

from leafjudge import short
from leafjudge.errors import JudgeError, NoRule, TooMany
from leafjudge.growing import grown
from leafjudge.rules import is_rule, rules_of
from leafjudge.short import shortened
from samples import (FORMS, LADDER, SHIRT, SHIRT_CASES, WORDY, answer_by_the_words, cases_by_the_words, cut_tree,
                     form_of, single, some_rows, some_rules, some_tree)

SIZES = ("small", "mid", "large", None)
DYES = ("no", "yes", None)
ALL = (SIZES, DYES)
THREE_HUNDRED = form_of([4, 4, 3, 2], ("x", "y", "z"))
MORE = form_of([4, 3, 3, 3])


def lets_more(lets, field, entry, entries):
    """The lets with one thing more let in for a field."""
    let = tuple([found for found in entries if found in lets[field] or found == entry])
    return lets[:field] + (let,) + lets[field + 1:]


class Interface(unittest.TestCase):
    def test_arguments(self):
        self.assertEqual(list(inspect.signature(short.shortened).parameters), ["form", "rules"])


class Shortened(unittest.TestCase):
    def are_some_of(self, told, rules):
        """Each told rule stands for one handed in, in their order, with its answer, letting in as much or more."""
        left = list(rules)
        for lets, answer in told:
            while left and not (left[0][1] == answer and all(set(one) <= set(other) for one, other
                                                             in zip(left[0][0], lets, strict=True))):
                left.pop(0)
            self.assertTrue(left, "a rule that stands for none")
            left.pop(0)

    def is_shown(self, form, rules, number, show):
        """The show bears out that the rule can't be left out, and that it can't let in anything more."""
        cases = {case: answer_by_the_words(rules, case) for case in cases_by_the_words(form)}
        lets, answer = rules[number]
        self.assertEqual((type(show), len(show), type(show[1])), (tuple, 2, list))
        self.assertNotEqual(answer_by_the_words(rules[:number] + rules[number + 1:], show[0]), cases[show[0]])
        lacking = [(k, entry) for k, (name, values) in enumerate(form[0]) for entry in values + (None,)
                   if entry not in lets[k]]
        self.assertEqual([entry[:2] for entry in show[1]], lacking)
        for entry in show[1]:
            self.assertEqual((type(entry), len(entry)), (tuple, 3))
            more = lets_more(lets, entry[0], entry[1], form[0][entry[0]][1] + (None,))
            self.assertNotEqual(answer_by_the_words(rules[:number] + [(more, answer)] + rules[number + 1:], entry[2]),
                                cases[entry[2]])

    def are_right(self, form, rules):
        told = shortened(form, rules)
        self.assertEqual((type(told), len(told), type(told[0]), type(told[1])), (tuple, 2, list, list))
        found, shows = told
        self.assertTrue(all(is_rule(form, rule) for rule in found))
        self.are_some_of(found, rules)
        for case in cases_by_the_words(form):
            self.assertEqual(answer_by_the_words(found, case), answer_by_the_words(rules, case))
        self.assertEqual(len(shows), len(found))
        for number, show in enumerate(shows):
            self.is_shown(form, found, number, show)
        return found

    def test_one_rule(self):
        self.assertEqual(self.are_right(SHIRT, [(ALL, "give")]), [(ALL, "give")])

    def test_nothing_to_shorten(self):
        rules = [((("small",), DYES), "give"), (ALL, "keep")]
        self.assertEqual(self.are_right(SHIRT, rules), rules)

    def test_a_rule_that_is_never_reached_goes(self):
        self.assertEqual(self.are_right(SHIRT, [(ALL, "keep"), (ALL, "give")]), [(ALL, "keep")])
        self.assertEqual(self.are_right(SHIRT, [(ALL, "keep")] * 60), [(ALL, "keep")])

    def test_a_rule_that_others_make_up_for_goes(self):
        rules = [((("small",), DYES), "keep"), ((SIZES, ("yes",)), "give"), (ALL, "keep")]
        self.assertEqual(len(self.are_right(SHIRT, rules)), 3)
        rules = [((("small",), ("no",)), "keep"), ((SIZES, ("yes",)), "give"), (ALL, "keep")]
        self.assertEqual(len(self.are_right(SHIRT, rules)), 2)

    def test_one_answer_alone_needs_one_rule(self):
        for form in FORMS[:1] + [THREE_HUNDRED]:
            rules = [(lets, form[1][-1]) for lets, answer in some_rules(form, 40, 3)]
            found = self.are_right(form, rules)
            self.assertEqual(len(found), 1)
            self.assertEqual(found[0][0], rules[-1][0])

    def test_what_can_be_let_in_is_let_in(self):
        rules = [((("small",), ("no",)), "give"), ((("small",), ("yes", None)), "give"), ((SIZES[1:], DYES), "keep")]
        found = self.are_right(SHIRT, rules)
        self.assertEqual(len(found), 2)
        self.assertEqual(found[0], ((("small",), DYES), "give"))

    def test_a_later_rule_may_let_in_what_one_ahead_takes(self):
        # The second one is never reached by what it lets in more.
        rules = [((("small",), DYES), "give"), ((SIZES[1:], DYES), "keep")]
        self.assertEqual(self.are_right(SHIRT, rules), [rules[0], (ALL, "keep")])

    def test_a_rule_goes_once_a_later_one_is_gone(self):
        # The second is never reached; while it stands, the first seems needed.
        case = ("small", "no")
        rules = [(single(case), "keep"), (single(case), "give"), (ALL, "keep")]
        self.assertEqual(self.are_right(SHIRT, rules), [(ALL, "keep")])

    def test_rules_of_trees(self):
        for form in [SHIRT, WORDY, THREE_HUNDRED, form_of([5, 5, 5]), form_of([2]), form_of([5], ("x", "y", "z", "w"))]:
            for seed in range(6):
                self.are_right(form, rules_of(form, some_tree(form, 5, seed)))
                self.are_right(form, rules_of(form, grown(form, some_rows(form, 50, seed), 6, 1)))

    def test_sixty_rules_of_a_tree(self):
        self.are_right(THREE_HUNDRED, rules_of(THREE_HUNDRED, cut_tree(THREE_HUNDRED, 60)))

    def test_rules_that_overlap(self):
        for seed in range(12):
            for form in [SHIRT, WORDY, form_of([3, 2], ("x", "y", "z"))]:
                for many in [2, 5, 20]:
                    self.are_right(form, some_rules(form, many, seed, [0.3, 0.6, 0.8][seed % 3]))
        for dense in [0.3, 0.6, 0.9]:
            self.are_right(THREE_HUNDRED, some_rules(THREE_HUNDRED, 60, 1, dense))

    def test_every_case_a_rule_of_its_own(self):
        for seed in range(8):
            answers = [row[1] for row in some_rows(SHIRT, 12, seed)]
            self.are_right(SHIRT, [(single(case), answer) for case, answer in zip(SHIRT_CASES, answers)])

    def test_shortened_ones_again(self):
        for seed in range(6):
            rules = some_rules(WORDY, 30, seed)
            found = self.are_right(WORDY, rules)
            again = self.are_right(WORDY, found)
            self.assertEqual(len(again), len(found))

    def test_the_first_case_that_is_not_answered(self):
        for number, case in enumerate(SHIRT_CASES):
            rules = [(single(other), "keep") for other in SHIRT_CASES if other != case]
            self.is_refused(SHIRT, rules, case)
            self.is_refused(SHIRT, rules[:number], case)
            self.is_refused(SHIRT, rules[::-1], case)
        self.is_refused(SHIRT, [((SIZES[:3], DYES), "keep")], (None, "no"))
        self.is_refused(SHIRT, [((SIZES, DYES[:2]), "keep")], ("small", None))
        self.is_refused(THREE_HUNDRED, some_rules(THREE_HUNDRED, 9, 1, 1.0)[:0], cases_by_the_words(THREE_HUNDRED)[0])

    def is_refused(self, form, rules, case):
        kept = copy.deepcopy(rules)
        with self.assertRaises(NoRule) as taken:
            shortened(form, rules)
        self.assertIsInstance(taken.exception, JudgeError)
        self.assertEqual(taken.exception.case, case)
        self.assertIs(type(taken.exception.case), tuple)
        self.assertEqual(rules, kept)

    def test_no_rule_by_chance(self):
        for seed in range(20):
            rules = some_rules(WORDY, 12, seed)[:-1]
            cases = [case for case in cases_by_the_words(WORDY) if answer_by_the_words(rules, case) is None]
            if cases:
                self.is_refused(WORDY, rules, cases[0])

    def test_three_hundred_cases_and_more(self):
        self.assertEqual(len(cases_by_the_words(THREE_HUNDRED)), 300)
        self.assertEqual(len(cases_by_the_words(MORE)), 320)
        self.are_right(THREE_HUNDRED, some_rules(THREE_HUNDRED, 8, 5))
        for form in [MORE, LADDER, form_of([5, 5, 5, 5, 5])]:
            for rules in [some_rules(form, 8, 5), some_rules(form, 1, 5), some_rules(form, 8, 5)[:-1], []]:
                with self.assertRaises(TooMany) as taken:
                    shortened(form, rules)
                self.assertIsInstance(taken.exception, JudgeError)

    def test_what_was_handed_in_stays(self):
        handed = copy.deepcopy((WORDY, some_rules(WORDY, 20, 3)))
        told = shortened(handed[0], handed[1])
        told[0].clear()
        told[1].clear()
        self.assertEqual(handed, (WORDY, some_rules(WORDY, 20, 3)))
        handed = [(ALL, "keep")]
        told = shortened(SHIRT, handed)
        told[0].append(None)
        self.assertEqual(handed, [(ALL, "keep")])

    def test_told_lists_that_are_changed_change_no_later_answer(self):
        rules = some_rules(WORDY, 20, 3)
        kept = copy.deepcopy(shortened(WORDY, rules))
        told = shortened(WORDY, rules)
        for case, more in told[1]:
            more.append(None)
        told[0].reverse()
        told[1].clear()
        self.assertEqual(shortened(WORDY, rules), kept)


if __name__ == "__main__":
    unittest.main()
