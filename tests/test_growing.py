"""Rows ranked, the best question, the tree that rows grow: points 4, 14 and 15."""

import copy
import inspect
import random
import unittest
from fractions import Fraction

from leafjudge import growing
from leafjudge.counts import counted, doubt_of, first_answer
from leafjudge.growing import best, grown, ranked
from leafjudge.questions import parted, questions_of
from leafjudge.trees import coming, depth_of, is_tree
from samples import FORMS, LADDER, SHIRT, WORDY, form_of, places_of, some_rows

TWO = ((("f", ("a", "b")), ("g", ("a", "b"))), ("x", "y"))
# f and g part these rows alike well; with stray "yes" the last row goes with the a's.
LIKE = [(("a", "a"), "x"), (("a", "a"), "x"), (("b", "b"), "y"), ((None, None), "x")]
SHIRT_ROWS = [
    (("small", "no"), "keep"), (("small", "yes"), "keep"), (("mid", "no"), "give"), (("large", "yes"), "keep"),
    (("mid", None), "give"), ((None, "no"), "give"),
]
# Only both fields together tell these: at the top each question leaves as much doubt as there is.
CROSSED = [(("a", "a"), "x"), (("a", "b"), "y"), (("b", "a"), "y"), (("b", "b"), "x")]


def worth(doubt):
    return Fraction(doubt[0], doubt[1])


def doubt_by_the_words(rows):
    if not rows:
        return Fraction(0)
    return Fraction(sum(len([other for other in rows if other[1] != row[1]]) for row in rows), len(rows))


def ranked_by_the_words(form, rows, least):
    told = []
    for question in questions_of(form):
        for stray in ["yes", "no"]:
            sides = [[rows[k] for k in numbers] for numbers in parted(form, question, stray, rows)]
            if min(map(len, sides)) >= least:
                told.append((sum(map(doubt_by_the_words, sides)), len(told), question, stray))
    return [(question, stray, (doubt.numerator, doubt.denominator)) for doubt, place, question, stray in sorted(told)]


def grown_by_the_words(form, rows, deep, least):
    told = ranked_by_the_words(form, rows, least)
    if deep == 0 or not told or worth(told[0][2]) >= doubt_by_the_words(rows):
        return ("say", first_answer(form, rows))
    question, stray = told[0][:2]
    yes, no = parted(form, question, stray, rows)
    return ("ask", question, stray, grown_by_the_words(form, [rows[k] for k in yes], deep - 1, least),
            grown_by_the_words(form, [rows[k] for k in no], deep - 1, least))


def some_sets_of_rows(form):
    told = [some_rows(form, many, seed) for seed in range(3) for many in [1, 2, 5, 13, 60]]
    return told + [some_rows(form, many, seed, like=8) for seed in range(3) for many in [5, 20, 60]]


class Interface(unittest.TestCase):
    def test_arguments(self):
        told = {"ranked": ["form", "rows", "least"], "best": ["form", "rows", "least"],
                "grown": ["form", "rows", "deep", "least"]}
        for name, arguments in told.items():
            self.assertEqual(list(inspect.signature(getattr(growing, name)).parameters), arguments)


class Ranked(unittest.TestCase):
    def test_ordinary(self):
        told = [
            (("is", "size", "mid"), "yes", (0, 1)),
            (("is", "size", "small"), "no", (3, 2)),
            (("is", "size", "mid"), "no", (3, 2)),
            (("is", "dyed", "no"), "yes", (3, 2)),
            (("is", "size", "small"), "yes", (8, 3)),
            (("is", "dyed", "no"), "no", (8, 3)),
            (("is", "size", "large"), "yes", (3, 1)),
        ]
        self.assertEqual(ranked(SHIRT, SHIRT_ROWS, 2), told)
        # With stray "no" a single row is large.
        told.insert(4, (("is", "size", "large"), "no", (12, 5)))
        self.assertEqual(ranked(SHIRT, SHIRT_ROWS, 1), told)

    def test_of_like_ones_by_the_questions_order_then_yes_ahead_of_no(self):
        is_f, is_g = ("is", "f", "a"), ("is", "g", "a")
        self.assertEqual(ranked(TWO, LIKE, 1), [
            (is_f, "yes", (0, 1)), (is_g, "yes", (0, 1)), (is_f, "no", (1, 1)), (is_g, "no", (1, 1))])
        self.assertEqual(ranked(TWO, CROSSED, 1), [
            (is_f, "yes", (2, 1)), (is_f, "no", (2, 1)), (is_g, "yes", (2, 1)), (is_g, "no", (2, 1))])

    def test_a_least_number_above_one(self):
        is_f, is_g = ("is", "f", "a"), ("is", "g", "a")
        self.assertEqual(ranked(TWO, LIKE, 2), [(is_f, "no", (1, 1)), (is_g, "no", (1, 1))])
        self.assertEqual(ranked(TWO, LIKE, 3), [])
        self.assertEqual(len(ranked(TWO, CROSSED, 2)), 4)
        self.assertEqual(ranked(TWO, CROSSED, 3), [])
        self.assertEqual(ranked(TWO, CROSSED, 60), [])

    def test_rows_that_no_question_parts_properly(self):
        for many in [1, 2, 60]:
            self.assertEqual(ranked(TWO, [(("a", "b"), "x")] * many, 1), [])
            self.assertEqual(ranked(TWO, [(("a", "b"), "x"), (("a", "b"), "y")] * (many // 2), 1), [])
        self.assertEqual(ranked(TWO, [((None, None), "x"), ((None, None), "y")], 1), [])

    def test_no_rows(self):
        for form in FORMS:
            told = ranked(form, [], 1)
            self.assertEqual(told, [])
            self.assertIs(type(told), list)

    def test_questions_to_choose_from_alone(self):
        for form in FORMS:
            for question, stray, doubt in ranked(form, some_rows(form, 60, 9), 1):
                self.assertIn(question, questions_of(form))

    def test_doubts_that_lie_close_together(self):
        # Thirds, sevenths and elevenths: taken by their tops or bottoms alone they would stand otherwise.
        form = form_of([5, 5, 5], ("x", "y", "z", "w"))
        for seed in range(10):
            told = [worth(doubt) for question, stray, doubt in ranked(form, some_rows(form, 37, seed), 1)]
            self.assertEqual(told, sorted(told))
            self.assertGreater(len(set(told)), 10)

    def test_by_the_words(self):
        for form in FORMS:
            for rows in some_sets_of_rows(form):
                for least in [1, 2, 5, 20]:
                    told = ranked(form, rows, least)
                    self.assertEqual(told, ranked_by_the_words(form, rows, least))
                    self.assertIs(type(told), list)
                    self.assertTrue(all(type(entry) is tuple and type(entry[2]) is tuple for entry in told))

    def test_a_told_list_that_is_changed_changes_no_later_answer(self):
        kept = list(ranked(TWO, LIKE, 1))
        told = ranked(TWO, LIKE, 1)
        told.reverse()
        told.append(None)
        self.assertEqual(ranked(TWO, LIKE, 1), kept)
        self.assertEqual(best(TWO, LIKE, 1), kept[0])


class Best(unittest.TestCase):
    def test_the_first_where_it_leaves_less_doubt(self):
        self.assertEqual(best(TWO, LIKE, 1), (("is", "f", "a"), "yes", (0, 1)))
        self.assertEqual(best(TWO, LIKE, 2), (("is", "f", "a"), "no", (1, 1)))
        self.assertEqual(best(SHIRT, SHIRT_ROWS, 1), (("is", "size", "mid"), "yes", (0, 1)))

    def test_one_answer_alone(self):
        rows = [(("a", "a"), "x"), (("b", "a"), "x"), (("b", "b"), "x")]
        self.assertEqual(len(ranked(TWO, rows, 1)), 4)
        self.assertIsNone(best(TWO, rows, 1))

    def test_cases_all_alike(self):
        self.assertIsNone(best(TWO, [(("a", "a"), "x"), (("a", "a"), "y"), (("a", "a"), "y")], 1))

    def test_no_rows(self):
        for form in FORMS:
            self.assertIsNone(best(form, [], 1))

    def test_as_much_doubt_as_there_is(self):
        self.assertEqual(ranked(TWO, CROSSED, 1)[0][2], doubt_of(TWO, CROSSED))
        self.assertIsNone(best(TWO, CROSSED, 1))

    def test_none_that_parts_properly(self):
        self.assertIsNone(best(TWO, LIKE, 3))

    def test_just_a_little_less_doubt(self):
        rows = [(("a", "a"), "x")] * 15 + [(("a", "a"), "y")] * 15 + [(("b", "a"), "x")] * 14 + [(("b", "a"), "y")] * 16
        told = best(TWO, rows, 1)
        self.assertEqual(told[:2], (("is", "f", "a"), "yes"))
        self.assertLess(worth(told[2]), worth(doubt_of(TWO, rows)))

    def test_by_the_words(self):
        for form in FORMS:
            for rows in some_sets_of_rows(form):
                for least in [1, 3, 20]:
                    told = ranked_by_the_words(form, rows, least)
                    right = told[0] if told and worth(told[0][2]) < doubt_by_the_words(rows) else None
                    self.assertEqual(best(form, rows, least), right)


class Grown(unittest.TestCase):
    def test_deep_nought(self):
        self.assertEqual(grown(TWO, LIKE, 0, 1), ("say", "x"))
        self.assertEqual(grown(SHIRT, SHIRT_ROWS, 0, 1), ("say", "keep"))

    def test_no_best_question(self):
        self.assertEqual(grown(TWO, CROSSED, 6, 1), ("say", "x"))
        self.assertEqual(grown(TWO, [(("a", "b"), "y")] * 5, 6, 1), ("say", "y"))
        self.assertEqual(grown(TWO, [], 6, 1), ("say", "x"))
        self.assertEqual(grown(TWO, LIKE, 6, 3), ("say", "x"))

    def test_several_levels(self):
        rows = [(("a", "a"), "x"), (("a", "b"), "y"), (("b", "a"), "y"), (("b", "b"), "y")]
        leaf = ("say", "y")
        below = ("ask", ("is", "g", "a"), "yes", ("say", "x"), leaf)
        self.assertEqual(grown(TWO, rows, 6, 1), ("ask", ("is", "f", "a"), "yes", below, leaf))
        self.assertEqual(grown(TWO, rows, 2, 1), ("ask", ("is", "f", "a"), "yes", below, leaf))
        self.assertEqual(grown(TWO, rows, 1, 1), ("ask", ("is", "f", "a"), "yes", ("say", "x"), leaf))
        self.assertEqual(grown(TWO, rows, 6, 2), ("ask", ("is", "f", "a"), "yes", ("say", "x"), leaf))
        self.assertEqual(grown(TWO, rows, 6, 3), leaf)

    def test_the_strays_go_as_the_best_question_says(self):
        self.assertEqual(grown(TWO, LIKE, 1, 1), ("ask", ("is", "f", "a"), "yes", ("say", "x"), ("say", "y")))
        turned = [(("a", "a"), "x"), (("a", "a"), "x"), (("b", "b"), "y"), ((None, None), "y")]
        self.assertEqual(grown(TWO, turned, 1, 1), ("ask", ("is", "f", "a"), "no", ("say", "x"), ("say", "y")))

    def test_by_the_words(self):
        for form in FORMS:
            for rows in some_sets_of_rows(form)[::2]:
                for deep, least in [(0, 1), (1, 1), (2, 1), (3, 2), (6, 1), (6, 4), (6, 60)]:
                    told = grown(form, rows, deep, least)
                    self.assertEqual(told, grown_by_the_words(form, rows, deep, least))
                    self.assertIs(is_tree(form, told), True)
                    self.assertLessEqual(depth_of(told), deep)

    def test_each_knot_asks_a_best_question_and_each_leaf_says_what_most_have(self):
        for form in [LADDER, WORDY]:
            for seed in range(4):
                rows = some_rows(form, 60, seed)
                tree = grown(form, rows, 6, 2)
                self.assertGreaterEqual(depth_of(tree), 4)
                for place in places_of(tree):
                    here = [rows[k] for k in coming(form, tree, rows, place)]
                    part = tree
                    for side in place:
                        part = part[3 if side == "yes" else 4]
                    if part[0] == "say":
                        counts = counted(form, here)
                        self.assertEqual(counts[form[1].index(part[1])], max(counts))
                    else:
                        asked = [entry for entry in ranked(form, here, 2) if entry[:2] == part[1:3]]
                        self.assertEqual(asked[0][2], ranked(form, here, 2)[0][2])

    def test_rows_in_another_order_grow_the_same_tree(self):
        for form in FORMS:
            rows = some_rows(form, 40, 3)
            told = grown(form, rows, 4, 1)
            for seed in range(5):
                turned = list(rows)
                random.Random(seed).shuffle(turned)
                self.assertEqual(grown(form, turned, 4, 1), told)
            self.assertEqual(grown(form, rows[::-1], 4, 1), told)

    def test_rows_told_twice_grow_the_same_tree(self):
        for form in FORMS:
            for seed in range(4):
                rows = some_rows(form, 30, seed)
                self.assertEqual(grown(form, rows + rows, 6, 1), grown(form, rows, 6, 1))
                self.assertEqual(grown(form, rows + rows, 6, 4), grown(form, rows, 6, 2))


class HandedIn(unittest.TestCase):
    def test_rows_and_form_stay(self):
        for form in FORMS:
            rows = some_rows(form, 30, 2)
            kept = copy.deepcopy((form, rows))
            ranked(form, rows, 1).clear()
            best(form, rows, 1)
            tree = grown(form, rows, 6, 1)
            self.assertEqual((form, rows), kept)
            rows.clear()
            self.assertEqual(tree, grown(form, kept[1], 6, 1))


if __name__ == "__main__":
    unittest.main()
