"""Rules, how they answer cases, and the rules of a tree: points 22 and 23."""

import copy
import inspect
import itertools
import unittest

from leafjudge import rules as rules_module
from leafjudge.cases import all_cases
from leafjudge.errors import JudgeError, TooMany
from leafjudge.rules import answered, fits, is_rule, rules_of
from leafjudge.trees import answer_of, part_at, way_of
from samples import (FORMS, LADDER, SHIRT, SHIRT_CASES, WORDY, answer_by_the_words, bushy, cases_by_the_words, chain,
                     cut_tree, form_of, odd_things, places_of, some_rules, some_tree)

SMALL = ("is", "size", "small")
KEEP = ("say", "keep")
GIVE = ("say", "give")
SIZES = ("small", "mid", "large", None)
DYES = ("no", "yes", None)
RULE = ((("small", None), ("yes",)), "keep")


def subsets_in_order(entries):
    return [let for many in range(1, len(entries) + 1) for let in itertools.combinations(entries, many)]


class Interface(unittest.TestCase):
    def test_arguments(self):
        told = {"is_rule": ["form", "thing"], "fits": ["form", "rule", "case"],
                "answered": ["form", "rules", "case"], "rules_of": ["form", "tree"]}
        for name, arguments in told.items():
            self.assertEqual(list(inspect.signature(getattr(rules_module, name)).parameters), arguments)


class IsRule(unittest.TestCase):
    def is_told(self, told, things, form=SHIRT):
        for thing in things:
            self.assertIs(is_rule(form, thing), told, repr(thing)[:200])

    def test_right_ones(self):
        for answer in SHIRT[1]:
            self.is_told(True, [((one, other), answer) for one in subsets_in_order(SIZES)
                                for other in subsets_in_order(DYES)])
        for form in FORMS:
            self.is_told(True, some_rules(form, 60, 1), form)

    def test_an_empty_let(self):
        self.is_told(False, [(((), ("yes",)), "keep"), ((("small",), ()), "keep"), (((), ()), "keep"), ((), "keep")])

    def test_each_order_of_each_let(self):
        for many in range(1, 5):
            for let in itertools.permutations(SIZES, many):
                right = let in subsets_in_order(SIZES)
                self.is_told(right, [((let, ("yes",)), "keep"), ((let, DYES), "give")])

    def test_a_thing_twice(self):
        for let in [("small", "small"), (None, None), ("small", "mid", "mid"), ("small", "small", "mid"),
                    SIZES + (None,), ("small",) * 4]:
            self.is_told(False, [((let, DYES), "keep")])

    def test_none_not_last(self):
        self.is_told(False, [(((None, "small"), DYES), "keep"), ((("small", None, "mid"), DYES), "keep"),
                             ((SIZES, (None, "no", "yes")), "keep")])
        self.is_told(True, [(((None,), (None,)), "keep"), ((SIZES, (None,)), "keep")])

    def test_a_value_of_another_field(self):
        self.is_told(False, [((("no",), DYES), "keep"), ((SIZES, ("small",)), "keep"),
                             ((("small", "no"), DYES), "keep"), ((DYES, SIZES), "keep"),
                             ((("keep",), DYES), "keep"), ((("size",), DYES), "keep")])

    def test_too_few_or_too_many_lets(self):
        self.is_told(False, [((SIZES,), "keep"), ((SIZES, DYES, DYES), "keep"), ((DYES,), "keep"),
                             ((SIZES, DYES, ()), "keep"), ((SIZES, DYES, (None,)), "keep")])

    def test_too_few_or_too_many_things(self):
        lets = RULE[0]
        self.is_told(False, [(), (lets,), (lets, "keep", "keep"), (lets, "keep", None), ("keep", lets), lets])

    def test_a_list_in_the_place_of_a_tuple(self):
        self.is_told(True, [RULE])
        self.is_told(False, [list(RULE), (list(RULE[0]), "keep"), ((list(RULE[0][0]), RULE[0][1]), "keep"),
                             ((RULE[0][0], list(RULE[0][1])), "keep"), (RULE[0], ["keep"])])

    def test_a_text_in_the_place_of_a_tuple(self):
        form = ((("f", ("a", "b")),), ("x", "y"))
        self.is_told(True, [((("a",),), "x"), ((("a", "b"),), "x")], form)
        self.is_told(False, [(("a",), "x"), (("ab",), "x"), ("a", "x"), ((("ab",),), "x")], form)

    def test_an_answer_that_is_none(self):
        lets = RULE[0]
        wrong = ["small", "", "Keep", "keep ", None, 0, True, ("keep",), lets]
        self.is_told(False, [(lets, answer) for answer in wrong])

    def test_numbers_none_and_truths(self):
        for odd in [0, 1, -1, True, False, "", "None", "-"]:
            self.is_told(False, [odd, (odd, "keep"), (RULE[0], odd), ((odd, DYES), "keep"), (((odd,), DYES), "keep"),
                                 (((odd, "small"), DYES), "keep"), ((("small", odd), DYES), "keep")])

    def test_any_thing(self):
        self.is_told(False, odd_things())
        for odd in odd_things():
            self.is_told(False, [(odd, "keep"), (RULE[0], odd), ((SIZES, odd, odd), "keep"), (odd, odd), [odd, "keep"]])
            self.is_told(odd == (None,), [((odd, DYES), "keep"), ((SIZES, odd), "keep")])
            self.is_told(odd is None, [((("small", odd), DYES), "keep"), (((odd,), (odd,)), "keep")])

    def test_another_form_s_rule(self):
        for one, other in itertools.permutations(FORMS, 2):
            self.is_told(False, some_rules(one, 9, 2), other)


class FitsAndAnswered(unittest.TestCase):
    def test_fits(self):
        told = [case for case in SHIRT_CASES if fits(SHIRT, RULE, case)]
        self.assertEqual(told, [("small", "yes"), (None, "yes")])

    def test_a_case_that_lacks_fields(self):
        self.assertIs(fits(SHIRT, ((("small",), DYES), "keep"), (None, "no")), False)
        self.assertIs(fits(SHIRT, (((None,), DYES), "keep"), (None, "no")), True)
        self.assertIs(fits(SHIRT, ((SIZES, ("no", "yes")), "keep"), ("mid", None)), False)
        self.assertIs(fits(SHIRT, ((SIZES, DYES), "keep"), (None, None)), True)

    def test_fits_by_the_words(self):
        for form in [SHIRT, WORDY]:
            for rule in some_rules(form, 20, 4):
                for case in cases_by_the_words(form):
                    self.assertIs(fits(form, rule, case), answer_by_the_words([rule], case) is not None)

    def test_the_first_rule_that_fits(self):
        one, other, third = (SIZES, ("yes",)), (("small",), DYES), (SIZES, DYES)
        rules = [(one, "keep"), (other, "give"), (third, "keep")]
        self.assertEqual(answered(SHIRT, rules, ("small", "yes")), "keep")
        self.assertEqual(answered(SHIRT, rules, ("small", "no")), "give")
        self.assertEqual(answered(SHIRT, rules, ("mid", None)), "keep")
        self.assertEqual(answered(SHIRT, rules[1:], ("small", "yes")), "give")

    def test_none_where_none_fits(self):
        self.assertIsNone(answered(SHIRT, [RULE], ("mid", "yes")))
        self.assertIsNone(answered(SHIRT, [RULE] * 60, ("small", None)))

    def test_no_rules(self):
        for case in SHIRT_CASES:
            self.assertIsNone(answered(SHIRT, [], case))

    def test_answered_by_the_words(self):
        for seed, form in enumerate(FORMS):
            for many in [1, 2, 7, 60]:
                rules = some_rules(form, many, seed)
                for handed in [rules, rules[:-1]]:
                    for case in cases_by_the_words(form)[::3]:
                        self.assertEqual(answered(form, handed, case), answer_by_the_words(handed, case))

    def test_what_was_handed_in_stays(self):
        rules = some_rules(SHIRT, 9, 1)
        kept = copy.deepcopy(rules)
        for case in SHIRT_CASES:
            answered(SHIRT, rules, case)
        self.assertEqual(rules, kept)


class RulesOf(unittest.TestCase):
    def are_right(self, form, tree):
        told = rules_of(form, tree)
        self.assertIs(type(told), list)
        cases = cases_by_the_words(form)
        came = {}
        for case in cases:
            came.setdefault(tuple(side for question, side in way_of(form, tree, case)), []).append(case)
        # places_of goes through yes ahead of no.
        leaves = [place for place in places_of(tree) if part_at(tree, place)[0] == "say" and place in came]
        self.assertEqual(len(told), len(leaves))
        for rule, place in zip(told, leaves):
            self.assertIs(is_rule(form, rule), True)
            self.assertEqual(("say", rule[1]), part_at(tree, place))
            self.assertEqual([case for case in cases if answer_by_the_words([rule], case) is not None], came[place])
        return told

    def test_ordinary(self):
        tree = ("ask", SMALL, "no", ("ask", ("is", "dyed", "yes"), "yes", GIVE, KEEP), KEEP)
        self.assertEqual(rules_of(SHIRT, tree), [
            ((("small",), ("yes", None)), "give"), ((("small",), ("no",)), "keep"),
            ((("mid", "large", None), DYES), "keep")])

    def test_a_leaf(self):
        self.assertEqual(rules_of(SHIRT, GIVE), [((SIZES, DYES), "give")])

    def test_leaves_to_which_no_case_comes(self):
        told = [((("small",), DYES), "keep"), ((("mid", "large", None), DYES), "give")]
        tree = ("ask", SMALL, "no", ("ask", SMALL, "no", KEEP, GIVE), GIVE)
        self.assertEqual(rules_of(SHIRT, tree), told)
        tree = ("ask", SMALL, "no", KEEP, ("ask", SMALL, "no", ("ask", SMALL, "yes", KEEP, KEEP), GIVE))
        self.assertEqual(rules_of(SHIRT, tree), told)

    def test_what_lacks_alone(self):
        tree = ("ask", ("upto", "size", "mid"), "yes", ("ask", ("upto", "size", "mid"), "no", KEEP, GIVE), KEEP)
        self.assertEqual(rules_of(SHIRT, tree), [
            ((("small", "mid"), DYES), "keep"), (((None,), DYES), "give"), ((("large",), DYES), "keep")])

    def test_trees_by_the_words(self):
        for form in FORMS:
            for seed, deep in enumerate([0, 1, 2, 3, 4, 5, 5]):
                self.are_right(form, some_tree(form, deep, seed))
            self.are_right(form, chain(form, 30, ("no", "yes")))
            self.are_right(form, chain(form, 30))

    def test_just_one_fits_each_case(self):
        for seed, form in enumerate(FORMS):
            tree = some_tree(form, 5, seed + 50)
            told = rules_of(form, tree)
            for case in all_cases(form):
                self.assertEqual(len([rule for rule in told if fits(form, rule, case)]), 1)
                self.assertEqual(answered(form, told, case), answer_of(form, tree, case))
                self.assertEqual(answered(form, told[::-1], case), answer_of(form, tree, case))

    def test_sixty_told_and_sixty_one_refused(self):
        for form in [LADDER, form_of([5, 5, 5]), form_of([5, 5, 5, 5, 5], ("x", "y", "z"))]:
            for many in [1, 2, 59, 60]:
                self.assertEqual(len(rules_of(form, cut_tree(form, many))), many)
            for many in [61, 62, 200]:
                with self.assertRaises(TooMany) as taken:
                    rules_of(form, cut_tree(form, many))
                self.assertIsInstance(taken.exception, JudgeError)
        self.assertEqual(len(self.are_right(LADDER, cut_tree(LADDER, 60))), 60)

    def test_leaves_to_which_no_case_comes_count_for_none(self):
        form = form_of([5, 5, 5])
        question = ("is", form[0][0][0], "a")
        sixty = cut_tree(form, 60)
        more = ("ask", question, "no", ("ask", question, "no", ("say", "x"), bushy(form, 100)), sixty)
        # The first cut of sixty is asked above too: on no nothing is left to its yes side.
        many = len(rules_of(form, sixty[4])) + 1
        self.assertEqual(len(rules_of(form, more)), many)
        unmet = ("ask", question, "no", sixty[3], ("ask", question, "no", bushy(form, 100), sixty[4]))
        self.assertEqual(rules_of(form, unmet), rules_of(form, sixty))
        # A tree with few knots on one field, all of it met by at most four.
        self.assertEqual(len(rules_of(form_of([3]), bushy(form_of([3]), 500))), 4)

    def test_a_told_list_that_is_changed_changes_no_later_answer(self):
        tree = some_tree(SHIRT, 3, 4, 0.0)
        kept = list(rules_of(SHIRT, tree))
        told = rules_of(SHIRT, tree)
        told.clear()
        told.append(None)
        self.assertEqual(rules_of(SHIRT, tree), kept)

    def test_what_was_handed_in_stays(self):
        handed = copy.deepcopy((LADDER, cut_tree(LADDER, 61)))
        with self.assertRaises(TooMany):
            rules_of(handed[0], handed[1])
        self.assertEqual(handed, (LADDER, cut_tree(LADDER, 61)))


if __name__ == "__main__":
    unittest.main()
