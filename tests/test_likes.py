"""Trees told alike, with pieces, or unlike, with a case: point 26."""

import copy
import inspect
import unittest

from leafjudge import likes
from leafjudge.back import tree_of
from leafjudge.errors import JudgeError, TooMany
from leafjudge.likes import alike
from leafjudge.rules import is_rule, rules_of
from leafjudge.trees import answer_of, way_of
from samples import (FORMS, LADDER, SHIRT, WORDY, answer_by_the_words, bushy, cases_by_the_words, chain, cut_tree,
                     form_of, single, some_tree)

SMALL = ("is", "size", "small")
KEEP = ("say", "keep")
GIVE = ("say", "give")
GREAT = form_of([5, 5, 5, 5, 5])


def with_answers(tree, answer):
    """The tree with this answer at each leaf."""
    if tree[0] == "say":
        return ("say", answer)
    return tree[:3] + (with_answers(tree[3], answer), with_answers(tree[4], answer))


def other_side_up(form, tree):
    """A tree that answers alike: each "is" of a field with two values is asked with the other value."""
    if tree[0] == "say":
        return tree
    sides = (other_side_up(form, tree[3]), other_side_up(form, tree[4]))
    values = dict(form[0])[tree[1][1]]
    if len(values) > 2 or tree[1][0] == "upto":
        return tree[:3] + sides
    other = values[1 - values.index(tree[1][2])]
    return ("ask", ("is", tree[1][1], other), "no" if tree[2] == "yes" else "yes", sides[1], sides[0])


class Interface(unittest.TestCase):
    def test_arguments(self):
        self.assertEqual(list(inspect.signature(likes.alike).parameters), ["form", "one", "other"])


class Alike(unittest.TestCase):
    def is_right(self, form, one, other):
        """What is told bears itself out; tells "alike" or "unlike"."""
        told = alike(form, one, other)
        self.assertEqual((type(told), len(told)), (tuple, 2))
        cases = cases_by_the_words(form)
        unlike = [case for case in cases if answer_of(form, one, case) != answer_of(form, other, case)]
        if unlike:
            self.assertEqual(told[0], "unlike")
            self.assertIn(told[1], unlike)
            return told[0]
        self.assertEqual((told[0], type(told[1])), ("alike", list))
        pieces = [(lets, k) for k, lets in enumerate(told[1])]
        self.assertTrue(all(is_rule(form, (lets, form[1][0])) for lets in told[1]))
        lying = {}
        for case in cases:
            self.assertEqual(len([lets for lets in told[1] if answer_by_the_words([(lets, True)], case)]), 1)
            lying.setdefault(answer_by_the_words(pieces, case), []).append(case)
        for inside in lying.values():
            for tree in [one, other]:
                ways = [way_of(form, tree, case) for case in inside]
                self.assertTrue(all(way == ways[0] for way in ways))
        return told[0]

    def test_a_tree_and_itself(self):
        for form in FORMS:
            for seed, deep in enumerate([0, 1, 2, 3, 4, 5]):
                tree = some_tree(form, deep, seed)
                self.assertEqual(self.is_right(form, tree, copy.deepcopy(tree)), "alike")
            self.assertEqual(self.is_right(form, chain(form, 30), chain(form, 30)), "alike")

    def test_leaves(self):
        self.assertEqual(self.is_right(SHIRT, KEEP, KEEP), "alike")
        self.assertEqual(self.is_right(SHIRT, KEEP, GIVE), "unlike")
        self.assertEqual(self.is_right(SHIRT, ("ask", SMALL, "no", KEEP, KEEP), KEEP), "alike")
        self.assertEqual(self.is_right(SHIRT, KEEP, ("ask", SMALL, "no", KEEP, KEEP)), "alike")

    def test_pieces_of_a_knot_and_a_leaf(self):
        # All cases of one piece would go by one way in the leaf, but by two in the knot.
        told = alike(SHIRT, ("ask", SMALL, "no", KEEP, KEEP), KEEP)
        self.assertEqual(len(told[1]), 2)

    def test_another_tree_that_answers_alike(self):
        for form in FORMS:
            for seed in range(8):
                tree = some_tree(form, 4, seed)
                above = some_tree(form, 1, seed, 0.0)
                self.assertEqual(self.is_right(form, tree, other_side_up(form, tree)), "alike")
                self.assertEqual(self.is_right(form, tree, above[:3] + (tree, tree)), "alike")
                self.assertEqual(self.is_right(form, above[:3] + (tree, tree), tree), "alike")
                self.assertEqual(self.is_right(form, with_answers(tree, form[1][0]), ("say", form[1][0])), "alike")

    def test_the_tree_of_its_rules(self):
        for form in [SHIRT, WORDY]:
            for seed in range(8):
                tree = some_tree(form, 4, seed)
                self.assertEqual(self.is_right(form, tree, tree_of(form, rules_of(form, tree))), "alike")

    def test_leaves_to_which_no_case_comes_do_not_matter(self):
        one = ("ask", SMALL, "no", ("ask", SMALL, "no", KEEP, GIVE), GIVE)
        other = ("ask", SMALL, "no", ("ask", SMALL, "yes", KEEP, KEEP), GIVE)
        self.assertEqual(self.is_right(SHIRT, one, other), "alike")

    def test_one_case_alone_answered_unlike(self):
        for form in [SHIRT, WORDY]:
            whole = tuple([values + (None,) for name, values in form[0]])
            tree = some_tree(form, 3, 2, 0.0)
            for case in cases_by_the_words(form):
                other = next(answer for answer in form[1] if answer != answer_of(form, tree, case))
                rules = [(single(case), other)] + rules_of(form, tree)
                self.assertEqual(alike(form, tree, tree_of(form, rules)), ("unlike", case))
                self.assertEqual(alike(form, tree_of(form, rules), tree), ("unlike", case))
                rules = [(single(case), form[1][1]), (whole, form[1][0])]
                self.assertEqual(alike(form, ("say", form[1][0]), tree_of(form, rules)), ("unlike", case))

    def test_another_stray_shows_in_what_lacks_alone(self):
        one, other = ("ask", SMALL, "no", KEEP, GIVE), ("ask", SMALL, "yes", KEEP, GIVE)
        self.assertEqual(self.is_right(SHIRT, one, other), "unlike")
        self.assertIsNone(alike(SHIRT, one, other)[1][0])

    def test_trees_by_chance(self):
        seen = {"alike": 0, "unlike": 0}
        for form in [SHIRT, form_of([2]), form_of([3]), WORDY]:
            for seed in range(60):
                seen[self.is_right(form, some_tree(form, 2, seed), some_tree(form, 3, seed + 1000))] += 1
        self.assertGreater(min(seen.values()), 5)

    def is_refused(self, form, one, other):
        for pair in [(one, other), (other, one)]:
            with self.assertRaises(TooMany) as taken:
                alike(form, *pair)
            self.assertIsInstance(taken.exception, JudgeError)

    def test_two_thousand_pairs_and_more(self):
        # They ask of other fields, so that each leaf of the one has a case in common with each of the other.
        for many, fewer, taken in [(100, 20, True), (80, 25, True), (69, 29, False), (200, 36, False)]:
            one = with_answers(cut_tree(GREAT, many, (0, 1, 2)), "x")
            other = with_answers(cut_tree(GREAT, fewer, (3, 4)), "x")
            unlike = with_answers(other, "y")
            if taken:
                told = alike(GREAT, one, other)
                self.assertEqual((told[0], len(told[1])), ("alike", many * fewer))
                self.assertEqual(alike(GREAT, one, unlike)[0], "unlike")
                self.assertEqual(alike(GREAT, unlike, one)[0], "unlike")
            else:
                self.is_refused(GREAT, one, other)
                self.is_refused(GREAT, one, unlike)
                self.is_refused(GREAT, one, cut_tree(GREAT, fewer, (3, 4)))

    def test_two_thousand_pairs_bear_themselves_out(self):
        form = form_of([5, 5, 5, 4], ("x", "y"))
        one = with_answers(cut_tree(form, 200, (0, 1, 2)), "x")
        other = with_answers(cut_tree(form, 5, (3,)), "x")
        self.assertEqual(self.is_right(form, one, other), "alike")

    def test_pairs_without_a_case_in_common_count_for_none(self):
        tree = cut_tree(GREAT, 400)
        self.assertEqual(len(alike(GREAT, tree, tree)[1]), 400)
        form = form_of([5])
        told = alike(form, bushy(form, 500), bushy(form, 499))
        self.assertEqual(told[0], "alike")
        self.assertLessEqual(len(told[1]), 6)

    def test_what_was_handed_in_stays(self):
        handed = copy.deepcopy((LADDER, chain(LADDER, 9), chain(LADDER, 9)))
        alike(*handed)[1].clear()
        alike(handed[0], handed[1], ("say", "p"))
        self.assertEqual(handed, (LADDER, chain(LADDER, 9), chain(LADDER, 9)))

    def test_a_told_list_that_is_changed_changes_no_later_answer(self):
        kept = copy.deepcopy(alike(WORDY, chain(WORDY, 9), chain(WORDY, 9)))
        told = alike(WORDY, chain(WORDY, 9), chain(WORDY, 9))
        told[1].clear()
        told[1].append(None)
        self.assertEqual(alike(WORDY, chain(WORDY, 9), chain(WORDY, 9)), kept)


if __name__ == "__main__":
    unittest.main()
