"""Cases, rows and all cases: points 6 and 7."""

import copy
import inspect
import itertools
import unittest

from leafjudge import cases
from leafjudge.cases import all_cases, is_case, is_row, many_cases
from leafjudge.errors import JudgeError, TooMany
from samples import SHIRT, SHIRT_CASES, form_of, odd_things

# Two thousand is 4 * 4 * 5 * 5 * 5; the least number of cases above it that a form can have is 2160.
JUST_TWO_THOUSAND = form_of([3, 3, 4, 4, 4])
JUST_ABOVE = form_of([5, 5, 4, 3, 2])
ONE_FIELD = ((("f", ("a", "b")),), ("a", "b"))


def comes_ahead(form, one, other):
    """By the words of point 7: the first field in which they are unlike."""
    for (name, values), left, right in zip(form[0], one, other):
        if left != right:
            return right is None or (left is not None and values.index(left) < values.index(right))
    return False


class Interface(unittest.TestCase):
    def test_arguments(self):
        told = {"is_case": ["form", "thing"], "is_row": ["form", "thing"],
                "many_cases": ["form"], "all_cases": ["form"]}
        for name, arguments in told.items():
            self.assertEqual(list(inspect.signature(getattr(cases, name)).parameters), arguments)


class Cases(unittest.TestCase):
    def is_told(self, told, form, things):
        for thing in things:
            self.assertIs(is_case(form, thing), told, repr(thing)[:200])

    def test_each_value_and_none_in_each_place(self):
        self.is_told(True, SHIRT, SHIRT_CASES)
        self.is_told(True, ONE_FIELD, [("a",), ("b",), (None,)])
        self.is_told(True, form_of([2] * 5), [("a",) * 5, ("aa",) * 5, (None,) * 5, ("a", None, "aa", None, "a")])

    def test_each_pair_of_things_by_the_words(self):
        things = ["small", "mid", "large", "no", "yes", None, "size", "dyed", "keep", "give", "sma", "midd", "", 0, 1,
                  True, False, (), [], ("no",), ["no"], ["small"], [None], (None,)]
        for one, other in itertools.product(things, things):
            right = one in ["small", "mid", "large", None] and other in ["no", "yes", None]
            self.assertIs(is_case(SHIRT, (one, other)), right, (one, other))

    def test_a_thing_more_or_fewer(self):
        self.is_told(False, SHIRT, [(), ("small",), (None,), ("small", "no", None), ("small", "no", "no"), (None,) * 3])
        self.is_told(False, ONE_FIELD, [(), ("a", "b"), (None, None), (("a",),)])

    def test_another_thing_in_the_place_of_the_tuple(self):
        self.is_told(False, SHIRT, [["small", "no"], [None, None], None, "small no", "no"])
        self.is_told(False, ONE_FIELD, [["a"], "a", "b", None, [None]])

    def test_any_thing(self):
        self.is_told(False, SHIRT, odd_things())
        for thing in odd_things():
            right = thing is None
            self.is_told(right, SHIRT, [("small", thing), (thing, "no"), (thing, None), (thing, thing)])
            self.is_told(False, SHIRT, [["small", thing], ("small", "no", thing), (thing,)])


class Rows(unittest.TestCase):
    def is_told(self, told, form, things):
        for thing in things:
            self.assertIs(is_row(form, thing), told, repr(thing)[:200])

    def test_each_case_with_each_answer(self):
        self.is_told(True, SHIRT, list(itertools.product(SHIRT_CASES, ("keep", "give"))))
        self.is_told(True, ONE_FIELD, [(("a",), "a"), (("a",), "b"), ((None,), "b")])

    def test_no_answer(self):
        wrong = [None, "", "kee", "keepp", "small", "no", "size", 0, 1, True, False, (), [], ("keep",), ["keep"]]
        self.is_told(False, SHIRT, [(("small", "no"), answer) for answer in wrong])

    def test_no_case(self):
        wrong = [["small", "no"], ("small",), ("small", "no", "no"), ("no", "small"), ("small", 1), None, "small", ()]
        self.is_told(False, SHIRT, [(case, "keep") for case in wrong])

    def test_a_thing_more_or_fewer_or_in_another_order(self):
        case = ("small", "no")
        self.is_told(False, SHIRT, [(case,), (case, "keep", "keep"), (case, "keep", None), ("keep", case), case,
                                    ("small", "no", "keep"), (case, case), SHIRT])

    def test_another_thing_in_the_place_of_the_tuple(self):
        self.is_told(False, SHIRT, [[("small", "no"), "keep"], [["small", "no"], "keep"], None, "keep"])

    def test_any_thing(self):
        self.is_told(False, SHIRT, odd_things())
        for thing in odd_things():
            self.is_told(False, SHIRT, [(("small", "no"), thing), (thing, "keep"), (thing, thing), [thing, "keep"],
                                        (("small", "no"), "keep", thing)])


class AllCases(unittest.TestCase):
    def test_order_of_an_ordinary_form(self):
        self.assertEqual(all_cases(SHIRT), SHIRT_CASES)
        self.assertEqual(all_cases(ONE_FIELD), [("a",), ("b",), (None,)])

    def test_the_fields_own_order_counts_not_the_alphabet(self):
        form = ((("z", ("d", "c", "e")),), ("y", "x"))
        self.assertEqual(all_cases(form), [("d",), ("c",), ("e",), (None,)])

    def test_how_many(self):
        for counts in itertools.chain.from_iterable(itertools.product(range(2, 6), repeat=k) for k in range(1, 6)):
            many = 1
            for values in counts:
                many *= values + 1
            self.assertEqual(many_cases(form_of(counts)), many, counts)
            self.assertIs(type(many_cases(form_of(counts))), int)

    def test_each_once_in_order_as_tuples_in_a_list(self):
        for counts in [[2], [5], [2, 5], [5, 2, 3], [2, 3, 4, 5], [2] * 5, [3, 3, 4, 4, 4]]:
            form = form_of(counts)
            told = all_cases(form)
            self.assertIs(type(told), list)
            self.assertEqual(len(told), many_cases(form))
            self.assertEqual(len(set(told)), len(told))
            for case in told:
                self.assertIs(type(case), tuple)
                self.assertIs(is_case(form, case), True)
            for one, other in zip(told, told[1:]):
                self.assertTrue(comes_ahead(form, one, other), (one, other))

    def test_just_two_thousand_are_told(self):
        for counts in set(itertools.permutations([3, 3, 4, 4, 4])):
            form = form_of(counts)
            self.assertEqual(many_cases(form), 2000)
            told = all_cases(form)
            self.assertEqual(told, list(itertools.product(*[values + (None,) for name, values in form[0]])))

    def test_more_are_refused(self):
        for form in [JUST_ABOVE, form_of([2, 3, 4, 5, 5]), form_of([5] * 5)]:
            self.assertGreater(many_cases(form), 2000)
            with self.assertRaises(TooMany) as taken:
                all_cases(form)
            self.assertIsInstance(taken.exception, JudgeError)
        self.assertEqual(many_cases(JUST_ABOVE), 2160)
        self.assertEqual(many_cases(form_of([5] * 5)), 7776)

    def test_just_those_above_two_thousand_are_refused(self):
        for counts in itertools.combinations_with_replacement(range(2, 6), 5):
            form = form_of(counts)
            try:
                refused = len(all_cases(form)) < 0
            except TooMany:
                refused = True
            self.assertIs(refused, many_cases(form) > 2000, counts)


class AskersOwn(unittest.TestCase):
    def test_a_told_list_that_is_changed_changes_no_later_answer(self):
        told = all_cases(SHIRT)
        told.reverse()
        told.append("more")
        told[0] = None
        del told[3:]
        self.assertEqual(all_cases(SHIRT), SHIRT_CASES)
        self.assertEqual(many_cases(SHIRT), 12)

    def test_what_is_asked_later_changes_nothing_told(self):
        told = all_cases(SHIRT)
        all_cases(SHIRT).clear()
        all_cases(ONE_FIELD)
        self.assertEqual(told, SHIRT_CASES)

    def test_a_refusal_changes_nothing(self):
        for step in range(2):
            with self.assertRaises(TooMany):
                all_cases(JUST_ABOVE)
            self.assertEqual(all_cases(SHIRT), SHIRT_CASES)

    def test_nothing_handed_in_is_changed(self):
        form = copy.deepcopy(SHIRT)
        for thing in odd_things() + [["small", "no"], [["small", "no"], "keep"], (["small", "no"], ["keep"])]:
            kept = copy.deepcopy(thing)
            is_case(form, thing)
            is_row(form, thing)
            is_row(form, (thing, "keep"))
            self.assertEqual(repr(thing), repr(kept))
        many_cases(form)
        all_cases(form)
        self.assertEqual(form, SHIRT)


if __name__ == "__main__":
    unittest.main()
