"""Tables and when they hold: point 18."""

import copy
import inspect
import itertools
import random
import unittest

from leafjudge import tables
from leafjudge.least import cost_of, least
from leafjudge.questions import parted, questions_of
from leafjudge.tables import holds
from samples import FORMS, LADDER, SHIRT, form_of, some_rows, some_tree

TWO = ((("f", ("a", "b")), ("g", ("a", "b"))), ("x", "y"))
CROSSED = [(("a", "a"), "x"), (("a", "b"), "y"), (("b", "a"), "y"), (("b", "b"), "x")]
PRICES = (10, 1)
# The least costs of all sets that stand in a table for the four crossed rows with deep 2.
CROSSED_TABLE = [((0, 1, 2, 3), 2, 3), ((0, 1), 1, 1), ((2, 3), 1, 1), ((0, 2), 1, 1), ((1, 3), 1, 1)]


def leaf_cost(rows, numbers, slip):
    answers = [rows[k][1] for k in numbers]
    return slip * (len(answers) - max(answers.count(answer) for answer in answers))


def holds_by_the_words(form, rows, prices, table):
    slip, knot = prices
    told = {}
    for numbers, deep, cost in table:
        rising = list(numbers) == sorted(set(numbers))
        if not numbers or not rising or not 1 <= deep <= 3 or cost < 0 or (numbers, deep) in told:
            return False
        if numbers[0] < 0 or numbers[-1] >= len(rows):
            return False
        told[(numbers, deep)] = cost
    for (numbers, deep), cost in told.items():
        if cost > leaf_cost(rows, numbers, slip):
            return False
        for question, stray in itertools.product(questions_of(form), ["yes", "no"]):
            sides = parted(form, question, stray, [rows[k] for k in numbers])
            sides = [tuple([numbers[k] for k in side]) for side in sides]
            if not all(sides):
                continue
            if deep == 1:
                costs = [leaf_cost(rows, side, slip) for side in sides]
            else:
                costs = [told.get((side, deep - 1)) for side in sides]
            if None in costs or cost > knot + sum(costs):
                return False
    return True


class Interface(unittest.TestCase):
    def test_arguments(self):
        self.assertEqual(list(inspect.signature(tables.holds).parameters), ["form", "rows", "prices", "table"])


class Holds(unittest.TestCase):
    def is_told(self, told, table, form=TWO, rows=CROSSED, prices=PRICES):
        self.assertIs(holds(form, rows, prices, table), told, table)
        self.assertIs(holds_by_the_words(form, rows, prices, table), told, table)

    def test_the_empty_one(self):
        self.is_told(True, [])
        for form in FORMS:
            self.is_told(True, [], form, some_rows(form, 30, 1), (0, 0))

    def test_ordinary(self):
        self.is_told(True, CROSSED_TABLE)
        self.is_told(True, CROSSED_TABLE[::-1])
        self.is_told(True, CROSSED_TABLE[1:])
        self.is_told(True, [((0, 1, 2, 3), 1, 20)])
        self.is_told(True, [((0,), 1, 0), ((3,), 3, 0), ((1, 2), 1, 0)])

    def test_the_same_numbers_with_another_deep(self):
        self.is_told(True, CROSSED_TABLE + [((0, 1, 2, 3), 1, 20)])

    def test_a_cost_one_more_than_is_borne_out(self):
        for k, (numbers, deep, cost) in enumerate(CROSSED_TABLE):
            self.is_told(False, CROSSED_TABLE[:k] + [(numbers, deep, cost + 1)] + CROSSED_TABLE[k + 1:])
        self.is_told(False, [((0, 1, 2, 3), 1, 21)])
        self.is_told(False, [((0,), 1, 1)])

    def test_a_cost_one_less(self):
        self.is_told(True, [((0, 1, 2, 3), 2, 2)] + CROSSED_TABLE[1:])
        self.is_told(True, [((0, 1, 2, 3), 2, 0)] + CROSSED_TABLE[1:])
        # Less for a side bears out less for the whole.
        self.is_told(False, CROSSED_TABLE[:1] + [((0, 1), 1, 0)] + CROSSED_TABLE[2:])
        self.is_told(True, [((0, 1, 2, 3), 2, 2), ((0, 1), 1, 0)] + CROSSED_TABLE[2:])

    def test_what_a_leaf_costs_is_a_bound_too(self):
        self.is_told(True, [((0, 1), 1, 10)], prices=(10, 11))
        self.is_told(False, [((0, 1), 1, 11)], prices=(10, 11))
        self.is_told(True, [((0, 1), 1, 10)], prices=(10, 10))
        self.is_told(False, [((0, 1), 1, 10)], prices=(10, 9))

    def test_a_tuple_left_out(self):
        for k in range(1, len(CROSSED_TABLE)):
            self.is_told(False, CROSSED_TABLE[:k] + CROSSED_TABLE[k + 1:])
        self.is_told(False, [((0, 1, 2, 3), 2, 0)])
        self.is_told(False, [((0, 1), 2, 0)])

    def test_the_side_is_there_with_another_deep_alone(self):
        for deep in [2, 3]:
            wrong = CROSSED_TABLE[:1] + [((0, 1), deep, 1)] + CROSSED_TABLE[2:]
            self.is_told(False, wrong)
            self.is_told(False, wrong + [((0,), 1, 0), ((1,), 1, 0), ((0,), 2, 0), ((1,), 2, 0)])

    def test_a_tuple_told_twice(self):
        for numbers, deep, cost in CROSSED_TABLE:
            self.is_told(False, CROSSED_TABLE + [(numbers, deep, cost)])
            self.is_told(False, CROSSED_TABLE + [(numbers, deep, 0)])
            self.is_told(False, [(numbers, deep, 0)] + CROSSED_TABLE)

    def test_another_deep(self):
        self.is_told(False, [((0, 1, 2, 3), 1, 3)] + CROSSED_TABLE[1:] + [((0, 1, 2, 3), 1, 2)])
        self.is_told(True, [((0, 1, 2, 3), 1, 3)] + CROSSED_TABLE[1:])
        self.is_told(False, [((0, 1, 2, 3), 3, 3)] + CROSSED_TABLE[1:])

    def test_deeps_that_are_none(self):
        for deep in [0, 4, -1, 5, 10 ** 19, -(10 ** 19)]:
            self.is_told(False, [((0,), deep, 0)])
            self.is_told(False, CROSSED_TABLE + [((0,), deep, 0)])
        for deep in [1, 2, 3]:
            self.is_told(True, CROSSED_TABLE + [((0,), deep, 0)])

    def test_numbers_that_do_not_rise(self):
        for numbers in [(1, 0), (0, 0), (0, 1, 1), (3, 2, 1, 0), (0, 2, 1), (1, 2, 3, 3)]:
            self.is_told(False, [(numbers, 1, 0)])
            self.is_told(False, CROSSED_TABLE + [(numbers, 1, 0)])

    def test_numbers_of_no_row(self):
        for numbers in [(4,), (-1,), (0, 4), (-1, 0), (0, 1, 2, 3, 4), (10 ** 19,), (-(10 ** 19), 3), (-4, -3, -2, -1)]:
            self.is_told(False, [(numbers, 1, 0)])
            self.is_told(False, CROSSED_TABLE + [(numbers, 1, 0)])

    def test_no_numbers(self):
        for deep in [1, 2, 3]:
            self.is_told(False, [((), deep, 0)])

    def test_a_negative_cost(self):
        for cost in [-1, -10 ** 19]:
            self.is_told(False, [((0,), 1, cost)])
            self.is_told(False, [((0, 1, 2, 3), 2, cost)] + CROSSED_TABLE[1:])

    def test_great_costs(self):
        rows = [(("a", "a"), "x")] * 15 + [(("a", "a"), "y")] * 15
        numbers = tuple(range(30))
        self.is_told(True, [(numbers, 3, 15000000)], rows=rows, prices=(1000000, 1000000))
        self.is_told(False, [(numbers, 3, 15000001)], rows=rows, prices=(1000000, 1000000))
        self.is_told(False, [(numbers, 3, 10 ** 19)], rows=rows, prices=(1000000, 1000000))

    def test_either_stray_counts(self):
        rows = [(("a", "a"), "x"), ((None, "a"), "x"), (("b", "a"), "y")]
        self.is_told(True, [((0, 1, 2), 1, 1)], rows=rows)
        self.is_told(False, [((0, 1, 2), 1, 2)], rows=rows)
        rows = [(("a", "a"), "x"), ((None, "a"), "y"), (("b", "a"), "y")]
        self.is_told(True, [((0, 1, 2), 1, 1)], rows=rows)
        self.is_told(False, [((0, 1, 2), 1, 2)], rows=rows)

    def test_questions_to_choose_from_alone_count(self):
        # Upto the second of three values is none to choose from; "is" with the third parts as it does, but for strays.
        form = form_of([3])
        rows = [(("a",), "x"), (("aa",), "x"), (("aaa",), "y")]
        self.is_told(True, [((0, 1, 2), 1, 1)], form, rows)
        form = form_of([4])
        rows = [(("a",), "x"), (("aa",), "x"), (("aaa",), "y"), (("aaaa",), "y")]
        self.is_told(True, [((0, 1, 2, 3), 1, 1)], form, rows)
        self.is_told(False, [((0, 1, 2, 3), 1, 2)], form, rows)

    def test_things_that_are_no_whole_numbers(self):
        for wrong in [((True,), 1, 0), ((False, 1), 1, 0), ((0,), True, 0), ((0,), 1, False), ([0], 1, 0), ((0,), 1),
                      ((0,), 1, 0, 0), [(0,), 1, 0], (("0",), 1, 0), ((0,), None, 0)]:
            self.assertIs(holds(TWO, CROSSED, PRICES, [wrong]), False, wrong)


class TablesOfLeast(unittest.TestCase):
    def some_tables(self):
        for seed, (counts, many, deep) in enumerate([([2, 2], 10, 3), ([3, 2], 12, 2), ([4], 9, 3), ([5, 3], 30, 2),
                                                     ([2, 2, 2], 30, 3), ([3, 3], 8, 3), ([5, 5, 5], 30, 1)]):
            form = form_of(counts, ("x", "y", "z"))
            rows = some_rows(form, many, seed)
            for prices in [(3, 1), (1, 0), (0, 0), (2, 3), (1000000, 999999)]:
                yield form, rows, deep, prices, least(form, rows, deep, prices)

    def test_they_hold(self):
        for form, rows, deep, prices, (tree, cost, table) in self.some_tables():
            self.assertIs(holds(form, rows, prices, table), True)
            self.assertIs(holds_by_the_words(form, rows, prices, table), True)

    def test_one_more_for_all_rows_holds_no_longer(self):
        for form, rows, deep, prices, (tree, cost, table) in self.some_tables():
            top = (tuple(range(len(rows))), deep, cost)
            wrong = [entry for entry in table if entry != top] + [top[:2] + (cost + 1,)]
            self.assertIs(holds(form, rows, prices, wrong), False)

    def test_changed_ones_by_the_words(self):
        chance = random.Random(1)
        seen = {True: 0, False: 0}
        for form, rows, deep, prices, (tree, cost, table) in self.some_tables():
            for step in range(6):
                changed = list(table)
                for turn in range(chance.choice([1, 1, 2])):
                    k = chance.randrange(len(changed))
                    numbers, left, told = changed.pop(k)
                    kind = chance.randrange(6)
                    if kind < 3:
                        changed.append((numbers, left, max(0, told + chance.choice([-2, -1, 1, 2]))))
                    if kind == 3:
                        changed.append((numbers, chance.randrange(5), told))
                    if kind == 4:
                        changed.append((numbers[1:], left, told))
                    if not changed:
                        break
                right = holds_by_the_words(form, rows, prices, changed)
                seen[right] += 1
                self.assertIs(holds(form, rows, prices, changed), right, (form, rows, prices, changed))
        self.assertGreater(min(seen.values()), 20)

    def test_no_tree_costs_less_than_a_table_that_holds_tells(self):
        for form, rows, deep, prices, (tree, cost, table) in self.some_tables():
            for seed in range(10):
                other = some_tree(form, deep, seed)
                for numbers, left, told in table[::9]:
                    if left == deep:
                        self.assertLessEqual(told, cost_of(form, other, [rows[k] for k in numbers], prices))


class HandedIn(unittest.TestCase):
    def test_what_was_handed_in_stays(self):
        for table in [CROSSED_TABLE, CROSSED_TABLE[:2], CROSSED_TABLE * 2, [((5,), 1, 0)], []]:
            handed = copy.deepcopy((TWO, CROSSED, PRICES, table))
            holds(handed[0], handed[1], handed[2], handed[3])
            self.assertEqual(handed, (TWO, CROSSED, PRICES, table))

    def test_a_table_is_not_kept(self):
        table = list(CROSSED_TABLE)
        self.assertIs(holds(TWO, CROSSED, PRICES, table), True)
        table.pop()
        self.assertIs(holds(TWO, CROSSED, PRICES, table), False)
        rows = some_rows(LADDER, 5, 1)
        self.assertIs(holds(LADDER, rows, PRICES, [((4,), 1, 0)]), True)
        rows.pop()
        self.assertIs(holds(LADDER, rows, PRICES, [((4,), 1, 0)]), False)
        self.assertIs(holds(SHIRT, [((None, None), "keep")], PRICES, [((0,), 1, 0)]), True)


if __name__ == "__main__":
    unittest.main()
