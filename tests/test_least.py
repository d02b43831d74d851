"""What trees cost, and the least tree with its table: points 4, 16 and 17."""

import copy
import inspect
import itertools
import unittest

from leafjudge import least as module
from leafjudge.counts import first_answer
from leafjudge.errors import JudgeError, TooMany
from leafjudge.least import cost_of, least
from leafjudge.questions import parted, questions_of, side_of
from leafjudge.tables import holds
from leafjudge.trees import depth_of, is_tree
from samples import FORMS, LADDER, SHIRT, WORDY, form_of, some_rows

TWO = ((("f", ("a", "b")), ("g", ("a", "b"))), ("x", "y"))
CROSSED = [(("a", "a"), "x"), (("a", "b"), "y"), (("b", "a"), "y"), (("b", "b"), "x")]
SHIRT_TREE = ("ask", ("is", "size", "small"), "no", ("say", "keep"),
              ("ask", ("is", "dyed", "no"), "yes", ("say", "give"), ("say", "keep")))
SHIRT_ROWS = [
    (("small", "no"), "keep"), (("small", "yes"), "give"), (("mid", "no"), "keep"), (("mid", None), "give"),
    ((None, "yes"), "give"), (("large", "yes"), "keep"),
]
SOME_PRICES = [(1, 0), (0, 1), (0, 0), (1, 1), (3, 1), (2, 3), (1000000, 1), (1000000, 1000000), (1, 1000000)]
# Forms and rows (by how many and which chance) that meet just so many sets with deep 3.
JUST = {
    399: [([3, 3, 3], 26, 14), ([5, 5], 16, 80)],
    400: [([3, 3, 3], 22, 69), ([4, 3, 2], 24, 64), ([4, 4], 26, 53), ([5, 5], 18, 1)],
    401: [([3, 3, 3], 22, 55), ([4, 3, 2], 28, 52), ([4, 4], 28, 49), ([5, 5], 18, 0)],
    402: [([3, 3, 3], 20, 40), ([5, 5], 14, 57)],
}


def askings(form):
    return list(itertools.product(questions_of(form), ["yes", "no"]))


def sides_of_set(form, rows, numbers):
    """The proper partings of a set, by point 9."""
    told = []
    for question, stray in askings(form):
        sides = parted(form, question, stray, [rows[k] for k in numbers])
        if sides[0] and sides[1]:
            told.append(tuple([tuple([numbers[k] for k in side]) for side in sides]))
    return told


def sets_by_the_words(form, rows, deep):
    """The sets met, by point 17."""
    met = {(tuple(range(len(rows))), deep)}
    waiting = list(met)
    while waiting:
        numbers, left = waiting.pop()
        if left >= 2:
            for side in itertools.chain.from_iterable(sides_of_set(form, rows, numbers)):
                if (side, left - 1) not in met:
                    met.add((side, left - 1))
                    waiting.append((side, left - 1))
    return met


def all_trees(form, deep):
    """Each tree of questions to choose from that is not deeper."""
    told = [("say", answer) for answer in form[1]]
    if deep > 0:
        below = all_trees(form, deep - 1)
        for question, stray in askings(form):
            told.extend(("ask", question, stray, yes, no) for yes in below for no in below)
    return told


def fewest_knots(form, rows, deep):
    """All trees gone through by how they answer the rows: for each way to answer them the fewest knots."""
    told = {tuple([answer] * len(rows)): 0 for answer in form[1]}
    if deep > 0:
        below = fewest_knots(form, rows, deep - 1)
        for question, stray in askings(form):
            sides = [side_of(form, question, stray, case) for case, answer in rows]
            for (yes, one), (no, other) in itertools.product(below.items(), below.items()):
                answers = tuple([yes[k] if sides[k] == "yes" else no[k] for k in range(len(rows))])
                told[answers] = min(told.get(answers, 1 + one + other), 1 + one + other)
    return told


def least_cost_of_all(form, rows, deep, prices):
    right = [answer for case, answer in rows]
    costs = []
    for answers, knots in fewest_knots(form, rows, deep).items():
        slips = len([k for k in range(len(rows)) if answers[k] != right[k]])
        costs.append(prices[0] * slips + prices[1] * knots)
    return min(costs)


def questions_in(tree):
    if tree[0] == "say":
        return []
    return [tree[1]] + questions_in(tree[3]) + questions_in(tree[4])


class Interface(unittest.TestCase):
    def test_arguments(self):
        told = {"cost_of": ["form", "tree", "rows", "prices"], "least": ["form", "rows", "deep", "prices"]}
        for name, arguments in told.items():
            self.assertEqual(list(inspect.signature(getattr(module, name)).parameters), arguments)


class Costs(unittest.TestCase):
    def is_told(self, told, form, tree, rows, prices):
        self.assertEqual(cost_of(form, tree, rows, prices), told)
        self.assertIs(type(cost_of(form, tree, rows, prices)), int)

    def test_slips_and_knots(self):
        # The rows 1, 2, 4 are answered otherwise: keep, give, keep.
        self.is_told(3 * 10 + 2 * 1, SHIRT, SHIRT_TREE, SHIRT_ROWS, (10, 1))
        self.is_told(3 * 1 + 2 * 10, SHIRT, SHIRT_TREE, SHIRT_ROWS, (1, 10))

    def test_prices_of_nought(self):
        self.is_told(3, SHIRT, SHIRT_TREE, SHIRT_ROWS, (1, 0))
        self.is_told(2, SHIRT, SHIRT_TREE, SHIRT_ROWS, (0, 1))
        self.is_told(0, SHIRT, SHIRT_TREE, SHIRT_ROWS, (0, 0))

    def test_great_prices(self):
        self.is_told(5000000, SHIRT, SHIRT_TREE, SHIRT_ROWS, (1000000, 1000000))
        self.is_told(60000000, SHIRT, ("say", "give"), [((None, None), "keep")] * 60, (1000000, 1000000))

    def test_a_leaf(self):
        self.is_told(21, SHIRT, ("say", "keep"), SHIRT_ROWS, (7, 1000))
        self.is_told(0, SHIRT, ("say", "keep"), [((None, None), "keep")], (7, 1000))

    def test_no_rows(self):
        self.is_told(0, SHIRT, ("say", "keep"), [], (7, 5))
        self.is_told(10, SHIRT, SHIRT_TREE, [], (7, 5))

    def test_alike_rows_count_each(self):
        self.is_told(3 * 6 + 2, SHIRT, SHIRT_TREE, [(("small", "no"), "give")] * 6, (3, 1))

    def test_knots_to_which_no_row_comes_count(self):
        tree = ("ask", ("is", "size", "mid"), "no", SHIRT_TREE, ("say", "give"))
        self.is_told(3, SHIRT, tree, [(("large", "no"), "give")], (5, 1))


class Least(unittest.TestCase):
    def is_right(self, form, rows, deep, prices):
        """All that point 17 tells but that no tree costs less."""
        told = least(form, rows, deep, prices)
        self.assertIs(type(told), tuple)
        tree, cost, table = told
        self.assertIs(is_tree(form, tree), True)
        self.assertLessEqual(depth_of(tree), deep)
        self.assertLessEqual(set(questions_in(tree)), set(questions_of(form)))
        self.assertEqual(cost, cost_of(form, tree, rows, prices))
        self.assertIs(type(cost), int)
        self.assertIs(type(table), list)
        self.assertTrue(all(type(entry) is tuple and type(entry[0]) is tuple for entry in table))
        self.assertIs(holds(form, rows, prices, table), True)
        if deep > 0:
            self.assertIn((tuple(range(len(rows))), deep, cost), table)
        else:
            self.assertEqual(tree, ("say", first_answer(form, rows)))
        return cost

    def test_two_fields_that_tell_only_together(self):
        self.assertEqual(self.is_right(TWO, CROSSED, 2, (10, 1)), 3)
        self.assertEqual(self.is_right(TWO, CROSSED, 3, (10, 1)), 3)
        self.assertEqual(self.is_right(TWO, CROSSED, 1, (10, 1)), 20)
        self.assertEqual(self.is_right(TWO, CROSSED, 2, (1, 1)), 2)
        self.assertEqual(least(TWO, CROSSED, 1, (10, 1))[0][0], "say")

    def test_deep_nought(self):
        for form in FORMS:
            for many in [1, 2, 30]:
                rows = some_rows(form, many, many)
                for prices in SOME_PRICES:
                    self.is_right(form, rows, 0, prices)
        # Sets of deep 0 are none that are counted.
        self.is_right(form_of([5] * 5), some_rows(form_of([5] * 5), 30, 1), 0, (1, 1))

    def test_one_row(self):
        for deep in range(4):
            for prices in SOME_PRICES:
                rows = [((None, "yes"), "give")]
                self.assertEqual(self.is_right(SHIRT, rows, deep, prices), 0)

    def test_rows_all_alike(self):
        rows = [(("mid", "no"), "give")] * 20 + [(("mid", "no"), "keep")] * 10
        for deep in range(4):
            self.assertEqual(self.is_right(SHIRT, rows, deep, (7, 1)), 70)

    def test_all_trees_written_out(self):
        for form, many, deep in [(SHIRT, 5, 1), (SHIRT, 6, 2), (TWO, 6, 2), (WORDY, 6, 1), (LADDER, 7, 1)]:
            trees = all_trees(form, deep)
            for seed, prices in [(1, (1, 0)), (2, (3, 1)), (3, (2, 3))]:
                rows = some_rows(form, many, seed)
                cheapest = min(cost_of(form, tree, rows, prices) for tree in trees)
                self.assertEqual(self.is_right(form, rows, deep, prices), cheapest)

    def test_all_trees_by_how_they_answer(self):
        small = form_of([3], ("x", "y", "z"))
        for form, most, deep in [(TWO, 6, 3), (SHIRT, 5, 3), (small, 5, 3), (SHIRT, 6, 2), (LADDER, 4, 2)]:
            for seed in range(6):
                rows = some_rows(form, 2 + seed % (most - 1), seed)
                for prices in SOME_PRICES[seed % 3::3]:
                    cheapest = least_cost_of_all(form, rows, deep, prices)
                    self.assertEqual(self.is_right(form, rows, deep, prices), cheapest)

    def test_a_deeper_one_costs_no_more(self):
        for form in [TWO, SHIRT, form_of([4, 2])]:
            for seed in range(5):
                rows = some_rows(form, 20, seed)
                costs = [self.is_right(form, rows, deep, (5, 2)) for deep in range(4)]
                self.assertEqual(costs, sorted(costs, reverse=True))

    def test_a_knot_that_saves_just_its_price_or_a_little_more(self):
        rows = [(("a", "a"), "x"), (("b", "a"), "y")]
        self.assertEqual(self.is_right(TWO, rows, 1, (5, 5)), 5)
        self.assertEqual(self.is_right(TWO, rows, 1, (5, 4)), 4)
        self.assertEqual(self.is_right(TWO, rows, 1, (5, 6)), 5)

    def test_many_rows(self):
        for seed in range(3):
            for form in [LADDER, WORDY, form_of([5] * 5, ("x", "y", "z", "w"))]:
                rows = some_rows(form, 30, seed)
                self.is_right(form, rows, 1, (3, 1))
                self.is_right(form, rows, 2, (3, 1))
            self.is_right(SHIRT, some_rows(SHIRT, 30, seed), 3, (3, 1))

    def test_just_four_hundred_sets_and_more(self):
        for many, told in JUST.items():
            for counts, rows_told, seed in told:
                form = form_of(counts)
                rows = some_rows(form, rows_told, seed)
                self.assertEqual(len(sets_by_the_words(form, rows, 3)), many)
                if many <= 400:
                    self.is_right(form, rows, 3, (3, 1))
                    continue
                with self.assertRaises(TooMany) as taken:
                    least(form, rows, 3, (3, 1))
                self.assertIsInstance(taken.exception, JudgeError)

    def test_refused_just_where_the_sets_are_too_many(self):
        for counts in [[5], [4, 3], [4, 4], [3, 3, 2], [2] * 5]:
            form = form_of(counts)
            for many in [1, 7, 12, 20, 30]:
                rows = some_rows(form, many, many)
                for deep in range(4):
                    met = [left for numbers, left in sets_by_the_words(form, rows, deep) if left > 0]
                    try:
                        refused = least(form, rows, deep, (1, 1)) is None
                    except TooMany:
                        refused = True
                    self.assertIs(refused, len(met) > 400, (counts, many, deep))

    def test_prices_do_not_change_which_are_refused(self):
        form = form_of([3, 3, 3])
        for prices in SOME_PRICES:
            with self.assertRaises(TooMany):
                least(form, some_rows(form, 22, 55), 3, prices)
            self.is_right(form, some_rows(form, 22, 69), 3, prices)


class AskersOwn(unittest.TestCase):
    def test_a_told_table_that_is_changed_changes_no_later_answer(self):
        for deep in range(3):
            told = least(TWO, CROSSED, deep, (10, 1))
            kept = copy.deepcopy(told)
            told[2].clear()
            told[2].append("more")
            again = least(TWO, CROSSED, deep, (10, 1))
            self.assertEqual(again[1], kept[1])
            self.assertIs(holds(TWO, CROSSED, (10, 1), again[2]), True)
            least(TWO, CROSSED, 2, (10, 1))[2].clear()
            self.assertIs(holds(TWO, CROSSED, (10, 1), again[2]), True)

    def test_what_was_handed_in_stays_also_where_it_is_refused(self):
        form = form_of([3, 3, 3])
        for many, seed, deep in [(22, 55, 3), (22, 69, 3), (22, 69, 1), (22, 69, 0)]:
            rows = some_rows(form, many, seed)
            kept = copy.deepcopy((form, rows))
            for step in range(2):
                try:
                    least(form, rows, deep, (3, 1))
                except TooMany:
                    pass
            cost_of(form, ("say", "x"), rows, (3, 1))
            self.assertEqual((form, rows), kept)

    def test_a_refusal_changes_nothing(self):
        form = form_of([3, 3, 3])
        before = least(TWO, CROSSED, 2, (10, 1))[1]
        with self.assertRaises(TooMany):
            least(form, some_rows(form, 22, 55), 3, (3, 1))
        self.assertEqual(least(TWO, CROSSED, 2, (10, 1))[1], before)


if __name__ == "__main__":
    unittest.main()
