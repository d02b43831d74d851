"""Trees made of rules: point 25."""

import copy
import inspect
import unittest

from leafjudge import back
from leafjudge.back import tree_of
from leafjudge.errors import JudgeError, NoRule, TooMany
from leafjudge.rules import rules_of
from leafjudge.short import shortened
from leafjudge.trees import answer_of, is_tree
from samples import (LADDER, SHIRT, SHIRT_CASES, WORDY, answer_by_the_words, cases_by_the_words, cut_tree, form_of,
                     single, some_rules, some_tree)

SIZES = ("small", "mid", "large", None)
DYES = ("no", "yes", None)
FIVE_HUNDRED = form_of([4, 4, 4, 3], ("x", "y", "z", "w"))
MORE = form_of([5, 5, 4, 2])
SMALL_FORMS = [SHIRT, WORDY, form_of([2]), form_of([5], ("x", "y", "z", "w")), form_of([5, 5, 5]),
               form_of([2, 2, 2, 2, 2])]


class Interface(unittest.TestCase):
    def test_arguments(self):
        self.assertEqual(list(inspect.signature(back.tree_of).parameters), ["form", "rules"])


class TreeOf(unittest.TestCase):
    def is_right(self, form, rules):
        tree = tree_of(form, rules)
        self.assertIs(is_tree(form, tree), True)
        for case in cases_by_the_words(form):
            self.assertEqual(answer_of(form, tree, case), answer_by_the_words(rules, case))
        return tree

    def test_one_rule(self):
        self.is_right(SHIRT, [((SIZES, DYES), "give")])
        self.is_right(SHIRT, [((SIZES, DYES), "keep")] * 60)

    def test_the_first_rule_that_fits_answers(self):
        rules = [((("small", "mid"), DYES), "give"), ((("mid", None), DYES), "keep"), ((SIZES, DYES), "give")]
        self.is_right(SHIRT, rules)

    def test_what_lacks_is_told_apart(self):
        for lets in [((None,), DYES), (SIZES, (None,)), ((None,), (None,)), (("large", None), ("yes", None))]:
            self.is_right(SHIRT, [(lets, "give"), ((SIZES, DYES), "keep")])
            self.is_right(SHIRT, [(lets, "keep"), ((SIZES, DYES), "give")])

    def test_one_case_alone_is_told_apart(self):
        for form in [SHIRT, WORDY]:
            whole = tuple([values + (None,) for name, values in form[0]])
            for case in cases_by_the_words(form):
                self.is_right(form, [(single(case), form[1][1]), (whole, form[1][0])])

    def test_every_other_case(self):
        # No question tells anything unless all fields are asked.
        form = form_of([2, 2, 2, 2], ("x", "y"))
        cases = [case for case in cases_by_the_words(form) if case.count("a") % 2]
        whole = tuple([values + (None,) for name, values in form[0]])
        self.is_right(form, [(single(case), "x") for case in cases] + [(whole, "y")])

    def test_rules_of_trees(self):
        for form in SMALL_FORMS:
            for seed in range(6):
                self.is_right(form, rules_of(form, some_tree(form, 5, seed)))

    def test_shortened_rules(self):
        for form in SMALL_FORMS:
            for seed in range(3):
                self.is_right(form, shortened(form, rules_of(form, some_tree(form, 5, seed)))[0])

    def test_rules_that_overlap(self):
        for form in SMALL_FORMS:
            for seed, many in enumerate([2, 5, 20, 60]):
                self.is_right(form, some_rules(form, many, seed))

    def test_five_hundred_cases(self):
        self.assertEqual(len(cases_by_the_words(FIVE_HUNDRED)), 500)
        self.is_right(FIVE_HUNDRED, rules_of(FIVE_HUNDRED, cut_tree(FIVE_HUNDRED, 60)))
        for dense in [0.2, 0.5, 0.8]:
            self.is_right(FIVE_HUNDRED, some_rules(FIVE_HUNDRED, 60, 1, dense))

    def test_five_hundred_cases_of_which_no_two_neighbours_are_alike(self):
        # One answer for each of the four remainders of the entries' numbers added up, by few rules that overlap.
        numbers = [{entry: k for k, entry in enumerate(values + (None,))} for name, values in FIVE_HUNDRED[0]]
        rules = []
        for case in cases_by_the_words(FIVE_HUNDRED):
            answer = FIVE_HUNDRED[1][sum(known[entry] for known, entry in zip(numbers, case)) % 4]
            rules.append((single(case), answer))
        # More rules than point 22 tells of: nothing is refused for it.
        self.is_right(FIVE_HUNDRED, rules)

    def test_more_than_five_hundred_cases(self):
        self.assertEqual(len(cases_by_the_words(MORE)), 540)
        for form in [MORE, form_of([5, 5, 5, 5]), form_of([5, 5, 5, 5, 5])]:
            for rules in [some_rules(form, 9, 1), some_rules(form, 1, 1), some_rules(form, 9, 1)[:-1], []]:
                with self.assertRaises(TooMany) as taken:
                    tree_of(form, rules)
                self.assertIsInstance(taken.exception, JudgeError)
        # Fewer than five hundred, though more than three hundred.
        form = form_of([4, 3, 3, 3])
        self.is_right(form, some_rules(form, 9, 1))
        self.is_right(LADDER, some_rules(LADDER, 9, 1))

    def is_refused(self, form, rules, case):
        kept = copy.deepcopy(rules)
        with self.assertRaises(NoRule) as taken:
            tree_of(form, rules)
        self.assertIsInstance(taken.exception, JudgeError)
        self.assertEqual(taken.exception.case, case)
        self.assertIs(type(taken.exception.case), tuple)
        self.assertEqual(rules, kept)

    def test_the_first_case_that_is_not_answered(self):
        for number, case in enumerate(SHIRT_CASES):
            rules = [(single(other), "keep") for other in SHIRT_CASES if other != case]
            self.is_refused(SHIRT, rules, case)
            self.is_refused(SHIRT, rules[:number], case)
        self.is_refused(SHIRT, [((SIZES[:3], DYES), "keep")], (None, "no"))
        self.is_refused(FIVE_HUNDRED, [], cases_by_the_words(FIVE_HUNDRED)[0])
        for seed in range(20):
            rules = some_rules(WORDY, 12, seed)[:-1]
            cases = [case for case in cases_by_the_words(WORDY) if answer_by_the_words(rules, case) is None]
            if cases:
                self.is_refused(WORDY, rules, cases[0])

    def test_what_was_handed_in_stays(self):
        handed = copy.deepcopy((WORDY, some_rules(WORDY, 20, 3)))
        kept = tree_of(handed[0], handed[1])
        self.assertEqual(handed, (WORDY, some_rules(WORDY, 20, 3)))
        handed[1].clear()
        self.assertEqual(tree_of(WORDY, some_rules(WORDY, 20, 3)), kept)


if __name__ == "__main__":
    unittest.main()
