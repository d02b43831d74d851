"""Prunings, what they cost, the least ones, and the steps: points 19 to 21."""

import copy
import inspect
import itertools
import unittest
from fractions import Fraction

from leafjudge import pruning
from leafjudge.counts import first_answer
from leafjudge.growing import grown
from leafjudge.pruning import is_pruning, least_pruning, price_of, steps
from leafjudge.questions import side_of
from leafjudge.trees import answer_of, coming, is_tree, knots_in, part_at
from samples import (FORMS, LADDER, SHIRT, WORDY, bushy, chain, every_asking, form_of, places_of, some_rows, some_tree,
                     with_part)

SMALL = ("is", "size", "small")
LARGE = ("is", "size", "large")
DYED = ("is", "dyed", "yes")
KEEP = ("say", "keep")
GIVE = ("say", "give")
ON_YES = ("ask", DYED, "yes", GIVE, KEEP)
ON_NO = ("ask", LARGE, "no", GIVE, KEEP)
TREE = ("ask", SMALL, "no", ON_YES, ON_NO)
# Three come to yes, of which two say give; five to no, of which three say keep.
ROWS = [
    (("small", "yes"), "give"), (("small", None), "give"), (("small", "no"), "keep"),
    (("mid", "no"), "keep"), (("mid", "yes"), "keep"), (("large", "no"), "give"), (("large", None), "give"),
    ((None, "no"), "keep"),
]


def rows_on(form, tree, rows, side):
    return [row for row in rows if side_of(form, tree[1], tree[2], row[0]) == side]


def leaf_by_the_words(form, rows):
    counts = [sum(row[1] == answer for row in rows) for answer in form[1]]
    return ("say", form[1][counts.index(max(counts))])


def all_prunings(form, tree, rows):
    """All prunings of the tree, each once."""
    if tree[0] == "say":
        return [tree]
    yes = all_prunings(form, tree[3], rows_on(form, tree, rows, "yes"))
    no = all_prunings(form, tree[4], rows_on(form, tree, rows, "no"))
    return [leaf_by_the_words(form, rows)] + [tree[:3] + both for both in itertools.product(yes, no)]


def slips_of(form, tree, rows):
    return sum(answer_of(form, tree, case) != answer for case, answer in rows)


def cost_by_the_words(form, tree, rows, price):
    return slips_of(form, tree, rows) + Fraction(*price) * knots_in(tree)


def least_by_the_words(lines, price):
    """Of tuples (slips, knots, tree) the tree that costs least at the price, the only one with the fewest knots."""
    worth = min((slips + price * knots, knots) for slips, knots, tree in lines)
    found = [tree for slips, knots, tree in lines if (slips + price * knots, knots) == worth]
    assert len(found) == 1
    return found[0]


def steps_by_the_words(form, tree, rows):
    """The steps by all prunings: between two prices at which some two cost the same the least one stays."""
    lines = [(slips_of(form, part, rows), knots_in(part), part) for part in all_prunings(form, tree, rows)]
    pairs = {(slips, knots) for slips, knots, part in lines}
    crossings = {Fraction(one[0] - other[0], other[1] - one[1])
                 for one, other in itertools.product(pairs, pairs) if one[1] < other[1] and one[0] > other[0]}
    told = [((0, 1), least_by_the_words(lines, Fraction(0)))]
    for price in sorted(crossings):
        found = least_by_the_words(lines, price)
        if knots_in(found) < knots_in(told[-1][1]):
            told.append(((price.numerator, price.denominator), found))
    return told


def with_leaf(tree, place, answer):
    return with_part(tree, place, ("say", answer))


def some_small_trees():
    """Tuples (form, tree, rows) with trees of few knots."""
    told = [(SHIRT, TREE, ROWS), (SHIRT, TREE, []), (SHIRT, KEEP, ROWS), (SHIRT, ON_YES, ROWS)]
    for seed in range(60):
        form = FORMS[seed % 3]
        rows = some_rows(form, [3, 8, 20, 60, 13][seed % 5], seed)
        tree = grown(form, rows[::2], 3, 1) if seed % 2 else some_tree(form, 3, seed)
        told.append((form, tree, rows))
    return told


class Interface(unittest.TestCase):
    def test_arguments(self):
        told = {"is_pruning": ["form", "tree", "rows", "other"], "price_of": ["form", "tree", "rows", "price"],
                "least_pruning": ["form", "tree", "rows", "price"], "steps": ["form", "tree", "rows"]}
        for name, arguments in told.items():
            self.assertEqual(list(inspect.signature(getattr(pruning, name)).parameters), arguments)


class IsPruning(unittest.TestCase):
    def is_told(self, told, tree, rows, other, form=SHIRT):
        self.assertIs(is_pruning(form, tree, rows, other), told, (tree, other))

    def test_the_tree_itself(self):
        for form in FORMS:
            for seed in range(8):
                tree = some_tree(form, 6, seed)
                for rows in [[], some_rows(form, 20, seed)]:
                    self.is_told(True, tree, rows, copy.deepcopy(tree), form)
            self.is_told(True, bushy(form, 500), some_rows(form, 60, 1), bushy(form, 500), form)
            self.is_told(True, chain(form, 30), some_rows(form, 60, 1), chain(form, 30), form)

    def test_a_leaf_for_one_knot(self):
        self.is_told(True, TREE, ROWS, ("ask", SMALL, "no", GIVE, ON_NO))
        self.is_told(True, TREE, ROWS, ("ask", SMALL, "no", ON_YES, KEEP))

    def test_leaves_for_several_knots(self):
        self.is_told(True, TREE, ROWS, ("ask", SMALL, "no", GIVE, KEEP))

    def test_a_leaf_for_the_top(self):
        # Four and four: the first answer is the first one in the answers' order.
        self.is_told(True, TREE, ROWS, KEEP)
        self.is_told(False, TREE, ROWS, GIVE)
        self.is_told(True, TREE, ROWS[:-1], GIVE)
        self.is_told(False, TREE, ROWS[:-1], KEEP)

    def test_a_leaf_that_says_another_answer(self):
        self.is_told(False, TREE, ROWS, ("ask", SMALL, "no", KEEP, ON_NO))
        self.is_told(False, TREE, ROWS, ("ask", SMALL, "no", ON_YES, GIVE))
        self.is_told(False, TREE, ROWS, ("ask", SMALL, "no", KEEP, KEEP))
        self.is_told(False, TREE, ROWS, ("ask", SMALL, "no", GIVE, GIVE))

    def test_the_rows_that_come_there_count_not_all(self):
        # Of all rows most say give, of those that come to no most say keep.
        rows = [(("small", "yes"), "give")] * 5 + [(("mid", "no"), "keep")]
        self.is_told(True, TREE, rows, ("ask", SMALL, "no", GIVE, KEEP))
        self.is_told(False, TREE, rows, ("ask", SMALL, "no", GIVE, GIVE))
        self.is_told(True, TREE, rows, GIVE)
        self.is_told(False, TREE, rows, KEEP)

    def test_a_leaf_of_the_tree_that_was_changed(self):
        self.is_told(False, KEEP, ROWS, GIVE)
        self.is_told(False, GIVE, ROWS, KEEP)
        # Even where the other answer is the first one of the rows that come there.
        odd = ("ask", SMALL, "no", KEEP, ON_NO)
        self.is_told(False, odd, ROWS, ("ask", SMALL, "no", GIVE, ON_NO))
        self.is_told(True, odd, ROWS, ("ask", SMALL, "no", KEEP, KEEP))
        self.is_told(False, TREE, ROWS, ("ask", SMALL, "no", ("ask", DYED, "yes", KEEP, KEEP), ON_NO))

    def test_another_question_or_stray(self):
        self.is_told(False, TREE, ROWS, ("ask", SMALL, "yes", ON_YES, ON_NO))
        self.is_told(False, TREE, ROWS, ("ask", LARGE, "no", ON_YES, ON_NO))
        self.is_told(False, TREE, ROWS, ("ask", ("upto", "size", "small"), "no", ON_YES, ON_NO))
        self.is_told(False, TREE, ROWS, ("ask", SMALL, "no", ("ask", DYED, "no", GIVE, KEEP), ON_NO))
        self.is_told(False, TREE, ROWS, ("ask", SMALL, "no", GIVE, ("ask", SMALL, "no", GIVE, KEEP)))

    def test_a_knot_where_the_tree_has_a_leaf(self):
        self.is_told(False, KEEP, ROWS, TREE)
        self.is_told(False, KEEP, ROWS, ("ask", SMALL, "no", KEEP, KEEP))
        self.is_told(False, ON_YES, ROWS, ("ask", DYED, "yes", GIVE, ("ask", SMALL, "no", KEEP, KEEP)))
        self.is_told(False, ("ask", SMALL, "no", GIVE, KEEP), ROWS, TREE)

    def test_sides_changed(self):
        self.is_told(False, TREE, ROWS, ("ask", SMALL, "no", ON_NO, ON_YES))
        self.is_told(False, ON_YES, ROWS, ("ask", DYED, "yes", KEEP, GIVE))

    def test_a_place_to_which_no_rows_come(self):
        below = ("ask", SMALL, "no", GIVE, ("ask", SMALL, "no", ("ask", DYED, "no", GIVE, GIVE), GIVE))
        self.is_told(True, below, ROWS, ("ask", SMALL, "no", GIVE, ("ask", SMALL, "no", KEEP, GIVE)))
        self.is_told(False, below, ROWS, ("ask", SMALL, "no", GIVE, ("ask", SMALL, "no", GIVE, GIVE)))
        for form in FORMS:
            tree = bushy(form, 3)
            for place in places_of(tree):
                part = part_at(tree, place)
                for answer in form[1]:
                    right = part == ("say", answer) if part[0] == "say" else answer == form[1][0]
                    self.is_told(right, tree, [], with_leaf(tree, place, answer), form)

    def test_small_trees_by_all_prunings(self):
        for form, tree, rows in some_small_trees()[:24]:
            prunings = all_prunings(form, tree, rows)
            known = set(prunings)
            self.assertEqual(len(known), len(prunings))
            for other in prunings:
                self.is_told(True, tree, rows, other, form)
            for other in prunings[:12]:
                for place in places_of(other):
                    for answer in form[1]:
                        changed = with_leaf(other, place, answer)
                        self.is_told(changed in known, tree, rows, changed, form)
                        changed = with_part(other, place, ("ask",) + every_asking(form)[0] + (("say", answer),) * 2)
                        self.is_told(changed in known, tree, rows, changed, form)

    def test_prunings_of_prunings(self):
        for form, tree, rows in some_small_trees()[:16]:
            for one in all_prunings(form, tree, rows)[:10]:
                for other in all_prunings(form, one, rows)[:10]:
                    self.is_told(True, one, rows, other, form)
                    self.is_told(True, tree, rows, other, form)
                    self.is_told(one == other, other, rows, one, form)

    def test_what_was_handed_in_stays(self):
        handed = copy.deepcopy((SHIRT, TREE, ROWS))
        is_pruning(handed[0], handed[1], handed[2], KEEP)
        price_of(handed[0], handed[1], handed[2], (1, 2))
        least_pruning(handed[0], handed[1], handed[2], (1, 2))
        steps(handed[0], handed[1], handed[2]).clear()
        self.assertEqual(handed, (SHIRT, TREE, ROWS))


class PriceOf(unittest.TestCase):
    def is_told(self, told, tree, rows, price, form=SHIRT):
        found = price_of(form, tree, rows, price)
        self.assertEqual(found, told)
        self.assertEqual([type(found), type(found[0]), type(found[1])], [tuple, int, int])

    def test_prunings(self):
        self.is_told((0, 1), TREE, ROWS, (0, 1))
        self.is_told((3, 1), TREE, ROWS, (1, 1))
        self.is_told((3, 2), TREE, ROWS, (1, 2))
        self.is_told((3, 1), ("ask", SMALL, "no", GIVE, KEEP), ROWS, (0, 1))
        self.is_told((10, 3), ("ask", SMALL, "no", GIVE, KEEP), ROWS, (1, 3))
        self.is_told((4, 1), KEEP, ROWS, (0, 1))

    def test_a_leaf_costs_its_slips_alone(self):
        for price in [(0, 1), (1, 1), (7, 3), (10 ** 18, 7)]:
            self.is_told((4, 1), KEEP, ROWS, price)
            self.is_told((3, 1), GIVE, ROWS[:-1], price)

    def test_no_rows(self):
        self.is_told((0, 1), TREE, [], (0, 1))
        self.is_told((9, 4), TREE, [], (3, 4))
        self.is_told((0, 1), KEEP, [], (5, 3))

    def test_trees_that_are_no_prunings(self):
        self.is_told((19, 2), ("ask", SMALL, "no", KEEP, ("ask", LARGE, "no", KEEP, GIVE)), ROWS, (5, 4))

    def test_lowest_terms(self):
        self.is_told((2, 1), TREE, [], (2, 3))
        self.is_told((1, 2), TREE, [], (1, 6))
        self.is_told((9, 2), ("ask", SMALL, "no", GIVE, KEEP), ROWS, (3, 2))

    def test_by_the_words(self):
        for form, tree, rows in some_small_trees():
            for price in [(0, 1), (1, 1), (1, 2), (2, 3), (5, 7), (12, 5), (100, 1), (10 ** 12, 999)]:
                for other in [tree, some_tree(form, 4, knots_in(tree))]:
                    cost = cost_by_the_words(form, other, rows, price)
                    self.is_told((cost.numerator, cost.denominator), other, rows, price, form)


class LeastPruning(unittest.TestCase):
    def test_ordinary(self):
        self.assertEqual(least_pruning(SHIRT, TREE, ROWS, (0, 1)), TREE)
        self.assertEqual(least_pruning(SHIRT, TREE, ROWS, (99, 100)), TREE)
        self.assertEqual(least_pruning(SHIRT, TREE, ROWS, (1, 1)), ("ask", SMALL, "no", GIVE, ON_NO))
        self.assertEqual(least_pruning(SHIRT, TREE, ROWS, (149, 100)), ("ask", SMALL, "no", GIVE, ON_NO))
        self.assertEqual(least_pruning(SHIRT, TREE, ROWS, (3, 2)), KEEP)

    def test_at_no_price_a_knot_that_helps_nothing_goes(self):
        idle = ("ask", DYED, "yes", GIVE, GIVE)
        self.assertEqual(least_pruning(SHIRT, ("ask", LARGE, "no", idle, KEEP), ROWS[3:], (0, 1)),
                         ("ask", LARGE, "no", GIVE, KEEP))
        self.assertEqual(least_pruning(SHIRT, TREE, [], (0, 1)), KEEP)

    def test_leaves_of_the_tree_stay(self):
        # The leaf on yes answers all its rows otherwise; it goes with its knot alone.
        tree = ("ask", SMALL, "no", KEEP, ON_NO)
        rows = [(("small", "yes"), "give")] + [(("large", "no"), "give")] * 4 + [(("mid", "no"), "keep")] * 5
        self.assertEqual(least_pruning(SHIRT, tree, rows, (0, 1)), tree)
        self.assertEqual(least_pruning(SHIRT, GIVE, ROWS[3:5], (100, 1)), GIVE)

    def test_a_knot_with_leaves_worse_than_one_goes_at_no_price(self):
        tree = ("ask", SMALL, "no", KEEP, GIVE)
        self.assertEqual(least_pruning(SHIRT, tree, ROWS[:2] + ROWS[3:5], (0, 1)), KEEP)

    def test_great_prices(self):
        for form, tree, rows in some_small_trees():
            leaf = tree if tree[0] == "say" else leaf_by_the_words(form, rows)
            for price in [(61, 1), (10 ** 18, 1), (10 ** 18 + 1, 3)]:
                self.assertEqual(least_pruning(form, tree, rows, price), leaf)

    def test_none_costs_less_nor_the_same_with_fewer_knots(self):
        for form, tree, rows in some_small_trees():
            lines = [(slips_of(form, part, rows), knots_in(part), part) for part in all_prunings(form, tree, rows)]
            for price in [(0, 1), (1, 4), (1, 3), (1, 2), (2, 3), (1, 1), (4, 3), (3, 2), (2, 1), (7, 2), (5, 1)]:
                told = least_pruning(form, tree, rows, price)
                self.assertEqual(told, least_by_the_words(lines, Fraction(*price)))
                self.assertIs(is_pruning(form, tree, rows, told), True)

    def test_great_trees(self):
        for form in FORMS:
            rows = some_rows(form, 60, 5)
            for tree in [bushy(form, 500), chain(form, 30, ("no", "yes")), chain(form, 30)]:
                told = least_pruning(form, tree, rows, (0, 1))
                self.assertIs(is_pruning(form, tree, rows, told), True)
                self.assertLessEqual(slips_of(form, told, rows), slips_of(form, tree, rows))


class Steps(unittest.TestCase):
    def test_ordinary(self):
        # Yes saves one slip by one knot, no two; the whole saves four by three.
        self.assertEqual(steps(SHIRT, TREE, ROWS), [
            ((0, 1), TREE), ((1, 1), ("ask", SMALL, "no", GIVE, ON_NO)), ((3, 2), KEEP)])

    def test_a_tree_that_is_a_leaf(self):
        for rows in [[], ROWS, ROWS[3:5]]:
            for leaf in [KEEP, GIVE]:
                self.assertEqual(steps(SHIRT, leaf, rows), [((0, 1), leaf)])

    def test_no_rows(self):
        for form in FORMS:
            for tree in [bushy(form, 5), bushy(form, 500), chain(form, 30)]:
                self.assertEqual(steps(form, tree, []), [((0, 1), ("say", form[1][0]))])

    def test_several_knots_go_at_one_price(self):
        tree = ("ask", DYED, "no", ("ask", LARGE, "no", GIVE, KEEP), ("ask", LARGE, "no", GIVE, KEEP))
        rows = [(("mid", "yes"), "keep"), (("large", "yes"), "give"), (("mid", "no"), "keep"),
                (("large", "no"), "give")]
        self.assertEqual(steps(SHIRT, tree, rows), [((0, 1), tree), ((2, 3), KEEP)])

    def test_prices_in_lowest_terms(self):
        form = form_of([2, 2, 2])
        rows = [(case, "x" if case.count("a") % 2 else "y") for case in itertools.product(("a", "aa"), repeat=3)]

        def whole(number, odd):
            if number == 3:
                return ("say", "x" if odd else "y")
            name = form[0][number][0]
            return ("ask", ("is", name, "a"), "no", whole(number + 1, not odd), whole(number + 1, odd))

        tree = whole(0, False)
        self.assertEqual(steps(form, tree, rows), [((0, 1), tree), ((4, 7), ("say", "x"))])
        self.assertEqual(steps(form, tree[3], rows[:4]), [((0, 1), tree[3]), ((2, 3), ("say", "x"))])
        self.assertEqual(steps(form, tree[3][3], rows[:2] * 2), [((0, 1), tree[3][3]), ((2, 1), ("say", "x"))])

    def test_small_trees_by_the_words(self):
        many = {}
        for form, tree, rows in some_small_trees():
            told = steps(form, tree, rows)
            self.assertEqual(told, steps_by_the_words(form, tree, rows))
            many[len(told)] = True
        self.assertGreater(len(many), 3)

    def are_steps(self, form, tree, rows):
        told = steps(form, tree, rows)
        self.assertIs(type(told), list)
        self.assertEqual(told[0][0], (0, 1))
        self.assertEqual(told[-1][1][0], "say")
        ahead = tree
        for price, part in told:
            self.assertIs(is_tree(form, part), True)
            self.assertIs(is_pruning(form, ahead, rows, part), True)
            self.assertIs(is_pruning(form, tree, rows, part), True)
            self.assertEqual(part, least_pruning(form, tree, rows, price))
            ahead = part
        for (price, part), (later, behind) in zip(told, told[1:]):
            self.assertLess(Fraction(*price), Fraction(*later))
            self.assertGreater(knots_in(part), knots_in(behind))
            self.assertEqual(Fraction(*later).as_integer_ratio(), later)
            # Both cost the same where the one takes the other's place.
            self.assertEqual(cost_by_the_words(form, part, rows, later), cost_by_the_words(form, behind, rows, later))
            for share in [Fraction(1, 1000), Fraction(1, 2), Fraction(999, 1000)]:
                between = Fraction(*price) + share * (Fraction(*later) - Fraction(*price))
                self.assertEqual(least_pruning(form, tree, rows, between.as_integer_ratio()), part)
        last = Fraction(*told[-1][0])
        for price in [last + Fraction(1, 1000), last + 1, last * 1000 + 1]:
            self.assertEqual(least_pruning(form, tree, rows, price.as_integer_ratio()), told[-1][1])
        return told

    def test_each_is_the_least_from_its_price_on(self):
        for form, tree, rows in some_small_trees():
            self.are_steps(form, tree, rows)

    def test_grown_trees_of_sixty_rows(self):
        for seed, form in enumerate(FORMS + [form_of([5, 5, 5, 5, 5], ("x", "y", "z", "w"))]):
            rows = some_rows(form, 60, seed)
            told = self.are_steps(form, grown(form, rows, 6, 1), rows)
            self.assertGreater(len(told), 2)

    def test_great_trees(self):
        for form in [LADDER, WORDY]:
            rows = some_rows(form, 60, 7)
            self.are_steps(form, bushy(form, 500), rows)
            self.are_steps(form, chain(form, 30, ("no", "yes", "no")), rows)
            self.are_steps(form, some_tree(form, 8, 3, 0.0), rows)

    def test_rows_come_by_their_ways(self):
        for form, tree, rows in some_small_trees()[:12]:
            for price, part in steps(form, tree, rows):
                for place in places_of(part):
                    if part_at(part, place)[0] == "say" and part_at(tree, place)[0] == "ask":
                        there = [rows[k] for k in coming(form, tree, rows, place)]
                        self.assertEqual(part_at(part, place), ("say", first_answer(form, there)))

    def test_a_told_list_that_is_changed_changes_no_later_answer(self):
        kept = list(steps(SHIRT, TREE, ROWS))
        told = steps(SHIRT, TREE, ROWS)
        told.clear()
        told.append(None)
        self.assertEqual(steps(SHIRT, TREE, ROWS), kept)


if __name__ == "__main__":
    unittest.main()
