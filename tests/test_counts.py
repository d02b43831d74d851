"""Counts, the first answer, the doubt, fractions: point 10."""

import copy
import inspect
import itertools
import math
import unittest
from fractions import Fraction

from leafjudge import counts
from leafjudge.counts import counted, doubt_of, first_answer, fraction
from samples import FORMS, LADDER, SHIRT, form_of, some_rows

FOUR = form_of([2], ("d", "b", "c", "a"))


def rows_with(answers):
    """A row for each letter of the text."""
    return [(("a",), answer) for answer in answers]


def doubt_by_the_words(rows):
    if not rows:
        return (0, 1)
    others = [len([other for other in rows if other[1] != row[1]]) for row in rows]
    doubt = Fraction(sum(others), len(rows))
    return (doubt.numerator, doubt.denominator)


class Interface(unittest.TestCase):
    def test_arguments(self):
        told = {"fraction": ["top", "bottom"], "counted": ["form", "rows"], "first_answer": ["form", "rows"],
                "doubt_of": ["form", "rows"]}
        for name, arguments in told.items():
            self.assertEqual(list(inspect.signature(getattr(counts, name)).parameters), arguments)


class Counted(unittest.TestCase):
    def test_in_the_order_of_answers(self):
        self.assertEqual(counted(FOUR, rows_with("abacada")), [1, 1, 1, 4])
        self.assertEqual(counted(FOUR, rows_with("bb")), [0, 2, 0, 0])

    def test_no_rows(self):
        self.assertEqual(counted(FOUR, []), [0, 0, 0, 0])
        self.assertEqual(counted(SHIRT, []), [0, 0])

    def test_alike_rows_count_each(self):
        self.assertEqual(counted(SHIRT, [(("mid", None), "give")] * 60), [0, 60])

    def test_by_the_words(self):
        for seed, form in enumerate(FORMS):
            for many in [1, 2, 7, 60]:
                rows = some_rows(form, many, seed)
                told = counted(form, rows)
                self.assertIs(type(told), list)
                self.assertEqual(told, [len([row for row in rows if row[1] == answer]) for answer in form[1]])

    def test_values_like_an_answer_do_not_count(self):
        self.assertEqual(counted(LADDER, [(("p", "p", "p", "p"), "q")]), [0, 1, 0])

    def test_a_told_list_that_is_changed_changes_no_later_answer(self):
        for rows in [[], rows_with("ab")]:
            kept = list(counted(FOUR, rows))
            counted(FOUR, rows).clear()
            counted(FOUR, rows)[0] = 9
            self.assertEqual(counted(FOUR, rows), kept)


class FirstAnswer(unittest.TestCase):
    def test_the_most(self):
        self.assertEqual(first_answer(FOUR, rows_with("abacada")), "a")
        self.assertEqual(first_answer(FOUR, rows_with("dcc")), "c")
        self.assertEqual(first_answer(FOUR, rows_with("b")), "b")

    def test_of_like_ones_the_first_in_the_answers_order(self):
        self.assertEqual(first_answer(FOUR, rows_with("abcd")), "d")
        self.assertEqual(first_answer(FOUR, rows_with("acbacb")), "b")
        self.assertEqual(first_answer(FOUR, rows_with("aaccdbb")), "b")
        self.assertEqual(first_answer(FOUR, rows_with("ac")), "c")

    def test_of_no_rows_the_first(self):
        self.assertEqual(first_answer(FOUR, []), "d")
        self.assertEqual(first_answer(SHIRT, []), "keep")

    def test_each_few_rows_by_the_words(self):
        for many in range(6):
            for answers in itertools.product("abcd", repeat=many):
                most = max(answers.count(answer) for answer in "abcd")
                right = [answer for answer in FOUR[1] if answers.count(answer) == most][0]
                self.assertEqual(first_answer(FOUR, rows_with(answers)), right, answers)


class Doubt(unittest.TestCase):
    def test_no_rows(self):
        self.assertEqual(doubt_of(FOUR, []), (0, 1))

    def test_one_answer_alone(self):
        for many in [1, 2, 60]:
            self.assertEqual(doubt_of(FOUR, rows_with("c" * many)), (0, 1))

    def test_several(self):
        self.assertEqual(doubt_of(FOUR, rows_with("ab")), (1, 1))
        self.assertEqual(doubt_of(FOUR, rows_with("aab")), (4, 3))
        self.assertEqual(doubt_of(FOUR, rows_with("aaab")), (3, 2))
        self.assertEqual(doubt_of(FOUR, rows_with("abcd")), (3, 1))
        self.assertEqual(doubt_of(FOUR, rows_with("aabbc")), (16, 5))

    def test_each_few_rows_by_the_words(self):
        for many in range(6):
            for answers in itertools.product("abcd", repeat=many):
                rows = rows_with(answers)
                self.assertEqual(doubt_of(FOUR, rows), doubt_by_the_words(rows), answers)

    def test_many_rows_by_the_words(self):
        for seed, form in enumerate(FORMS):
            for many in [10, 31, 60]:
                rows = some_rows(form, many, seed)
                told = doubt_of(form, rows)
                self.assertEqual(told, doubt_by_the_words(rows))
                self.assertEqual([type(told), type(told[0]), type(told[1])], [tuple, int, int])


class Fractions(unittest.TestCase):
    def test_lowest_terms(self):
        for top, bottom, told in [(1, 2, (1, 2)), (2, 4, (1, 2)), (6, 4, (3, 2)), (4, 2, (2, 1)), (7, 7, (1, 1)),
                                  (9, 1, (9, 1)), (12, 18, (2, 3)), (1, 1, (1, 1)), (35, 64, (35, 64))]:
            self.assertEqual(fraction(top, bottom), told)

    def test_nought(self):
        for bottom in [1, 2, 3, 60, 10 ** 40]:
            self.assertEqual(fraction(0, bottom), (0, 1))

    def test_each_small_one(self):
        for top, bottom in itertools.product(range(50), range(1, 50)):
            told = fraction(top, bottom)
            self.assertIs(type(told), tuple)
            self.assertEqual(told, (Fraction(top, bottom).numerator, Fraction(top, bottom).denominator))

    def test_great_whole_numbers(self):
        great = [10 ** 19, 2 ** 64 * 3 ** 20, 2 ** 61 - 1, 10 ** 200, 10 ** 200 + 1, 3 * (2 ** 521 - 1), 7 ** 300]
        for top, bottom in itertools.product(great, great):
            told = fraction(top, bottom)
            shared = math.gcd(top, bottom)
            self.assertEqual(told, (top // shared, bottom // shared))
            self.assertEqual([type(told[0]), type(told[1])], [int, int])

    def test_neighbours_that_take_the_most_steps(self):
        one, other = 0, 1
        for step in range(3000):
            one, other = other, one + other
        self.assertEqual(fraction(one, other), (one, other))
        self.assertEqual(fraction(other * 6, one * 6), (other, one))


class HandedIn(unittest.TestCase):
    def test_rows_and_form_stay(self):
        form = copy.deepcopy(LADDER)
        rows = some_rows(form, 20, 5)
        kept = copy.deepcopy(rows)
        counted(form, rows).append(1)
        first_answer(form, rows)
        doubt_of(form, rows)
        self.assertEqual((form, rows), (LADDER, kept))

    def test_rows_are_not_kept(self):
        rows = rows_with("aab")
        self.assertEqual(counted(FOUR, rows), [0, 1, 0, 2])
        rows.append((("a",), "c"))
        self.assertEqual(counted(FOUR, rows), [0, 1, 1, 2])
        self.assertEqual(doubt_of(FOUR, rows), (5, 2))


if __name__ == "__main__":
    unittest.main()
