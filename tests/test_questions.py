"""Questions, sides and how rows are parted: points 8 and 9."""

import copy
import inspect
import itertools
import unittest

from leafjudge import questions
from leafjudge.cases import all_cases
from leafjudge.questions import is_question, parted, questions_of, side_of
from samples import FORMS, LADDER, SHIRT, WORDY, every_asking, every_question, form_of, odd_things, some_rows

SHIRT_ROWS = [
    (("small", "no"), "keep"), (("mid", "yes"), "give"), ((None, "yes"), "keep"), (("large", None), "give"),
    (("mid", "yes"), "give"), ((None, None), "keep"),
]


def side_by_the_words(form, question, stray, case):
    kind, name, value = question
    for (field, values), held in zip(form[0], case):
        if field == name:
            if held is None:
                return stray
            right = held == value if kind == "is" else values.index(held) <= values.index(value)
            return "yes" if right else "no"
    raise AssertionError("no such field")


class Interface(unittest.TestCase):
    def test_arguments(self):
        told = {"is_question": ["form", "thing"], "questions_of": ["form"],
                "side_of": ["form", "question", "stray", "case"], "parted": ["form", "question", "stray", "rows"]}
        for name, arguments in told.items():
            self.assertEqual(list(inspect.signature(getattr(questions, name)).parameters), arguments)


class IsQuestion(unittest.TestCase):
    def is_told(self, told, form, things):
        for thing in things:
            self.assertIs(is_question(form, thing), told, repr(thing)[:200])

    def test_is_with_each_value(self):
        self.is_told(True, SHIRT, [("is", "size", "small"), ("is", "size", "mid"), ("is", "size", "large"),
                                   ("is", "dyed", "no"), ("is", "dyed", "yes")])

    def test_upto_with_each_value_but_the_last(self):
        self.is_told(True, SHIRT, [("upto", "size", "small"), ("upto", "size", "mid"), ("upto", "dyed", "no")])
        self.is_told(False, SHIRT, [("upto", "size", "large"), ("upto", "dyed", "yes")])

    def test_the_last_by_the_fields_own_order(self):
        self.is_told(True, LADDER, [("upto", "s", "t"), ("upto", "q", "r")])
        self.is_told(False, LADDER, [("upto", "s", "p"), ("upto", "q", "p"), ("upto", "p", "q"), ("upto", "r", "s")])

    def test_each_three_words_by_the_document(self):
        for form in FORMS:
            words = {"is", "upto", "yes", "no", "say", "ask", "", "IS", "Upto", form[1][0]}
            for name, values in form[0]:
                words.update((name, *values))
            for thing in itertools.product(sorted(words), repeat=3):
                self.assertIs(is_question(form, thing), thing in every_question(form), thing)

    def test_names_that_are_words_of_the_texts(self):
        self.is_told(True, WORDY, [("is", "is", "yes"), ("upto", "upto", "upto"), ("is", "upto", "is"),
                                   ("is", "say", "say"), ("upto", "say", "ask"), ("upto", "is", "no")])
        self.is_told(False, WORDY, [("say", "say", "say"), ("ask", "upto", "is"), ("yes", "is", "yes"),
                                    ("upto", "say", "say"), ("upto", "is", "say"), ("upto", "upto", "no")])

    def test_another_kind(self):
        for kind in ["", "are", "to", "Is", "is ", "UPTO", "upt", "say", "ask", None, 0, 1, True, ("is",), ["is"], []]:
            self.is_told(False, SHIRT, [(kind, "size", "small")])

    def test_another_field_or_value(self):
        for wrong in ["", "siz", "sizes", "keep", "is", None, 0, 1, True, False, (), [], ("size",), ["small"]]:
            self.is_told(False, SHIRT, [("is", wrong, "small"), ("is", "size", wrong), ("upto", wrong, "small"),
                                        ("upto", "size", wrong), ("is", wrong, wrong)])
        self.is_told(False, SHIRT, [("is", "size", "no"), ("is", "dyed", "small"), ("upto", "dyed", "mid")])

    def test_a_thing_more_or_fewer_or_in_another_order(self):
        self.is_told(False, SHIRT, [(), ("is",), ("is", "size"), ("size", "small"), ("is", "size", "small", "small"),
                                    ("is", "size", "small", None), ("size", "is", "small"), ("is", "small", "size"),
                                    (("is", "size", "small"),), (("is", "size", "small"), "yes")])

    def test_another_thing_in_the_place_of_the_tuple(self):
        self.is_told(False, SHIRT, [["is", "size", "small"], "is size small", None, 3, True])

    def test_any_thing(self):
        self.is_told(False, SHIRT, odd_things())
        for thing in odd_things():
            self.is_told(False, SHIRT, [(thing, "size", "small"), ("is", thing, "small"), ("upto", "size", thing),
                                        (thing, thing, thing), ("is", "size", "small", thing)])


class QuestionsOf(unittest.TestCase):
    def test_two_values(self):
        self.assertEqual(questions_of(form_of([2])), [("is", "f", "a")])

    def test_three_values(self):
        self.assertEqual(questions_of(form_of([3])), [("is", "f", "a"), ("is", "f", "aa"), ("is", "f", "aaa")])

    def test_four_values(self):
        told = [("is", "f", "a"), ("is", "f", "aa"), ("is", "f", "aaa"), ("is", "f", "aaaa"), ("upto", "f", "aa")]
        self.assertEqual(questions_of(form_of([4])), told)

    def test_five_values(self):
        told = [("is", "f", "a"), ("is", "f", "aa"), ("is", "f", "aaa"), ("is", "f", "aaaa"), ("is", "f", "aaaaa"),
                ("upto", "f", "aa"), ("upto", "f", "aaa")]
        self.assertEqual(questions_of(form_of([5])), told)

    def test_several_fields_in_their_order(self):
        self.assertEqual(questions_of(LADDER), [
            ("is", "p", "p"),
            ("is", "q", "r"), ("is", "q", "q"), ("is", "q", "p"),
            ("is", "r", "p"), ("is", "r", "q"), ("is", "r", "r"), ("is", "r", "s"), ("upto", "r", "q"),
            ("is", "s", "t"), ("is", "s", "s"), ("is", "s", "r"), ("is", "s", "q"), ("is", "s", "p"),
            ("upto", "s", "s"), ("upto", "s", "r"),
        ])

    def test_each_is_a_question_and_told_once(self):
        for counts in itertools.product(range(2, 6), repeat=3):
            form = form_of(counts)
            told = questions_of(form)
            self.assertIs(type(told), list)
            self.assertEqual(len(set(told)), len(told))
            for question in told:
                self.assertIs(type(question), tuple)
                self.assertIs(is_question(form, question), True)

    def test_told_anew_when_a_told_list_was_changed(self):
        kept = questions_of(SHIRT)
        told = questions_of(SHIRT)
        told.reverse()
        told.append("more")
        del told[1:3]
        self.assertEqual(questions_of(SHIRT), kept)
        self.assertEqual(kept, [("is", "size", "small"), ("is", "size", "mid"), ("is", "size", "large"),
                                ("is", "dyed", "no")])


class SideOf(unittest.TestCase):
    def test_is(self):
        for stray in ["yes", "no"]:
            told = [side_of(SHIRT, ("is", "size", "mid"), stray, (size, "no")) for size in ["small", "mid", "large"]]
            self.assertEqual(told, ["no", "yes", "no"])

    def test_upto(self):
        for stray in ["yes", "no"]:
            told = [side_of(SHIRT, ("upto", "size", "mid"), stray, (size, None)) for size in ["small", "mid", "large"]]
            self.assertEqual(told, ["yes", "yes", "no"])

    def test_cases_that_lack_the_field_go_as_the_stray_says(self):
        for stray, question in itertools.product(["yes", "no"], every_question(SHIRT)):
            self.assertEqual(side_of(SHIRT, question, stray, (None, None)), stray)

    def test_lacking_another_field_changes_nothing(self):
        self.assertEqual(side_of(SHIRT, ("is", "dyed", "yes"), "no", (None, "yes")), "yes")
        self.assertEqual(side_of(SHIRT, ("is", "dyed", "yes"), "yes", (None, "no")), "no")

    def test_each_case_by_the_words(self):
        for form in FORMS:
            for case in all_cases(form):
                for question, stray in every_asking(form):
                    told = side_of(form, question, stray, case)
                    self.assertEqual(told, side_by_the_words(form, question, stray, case), (question, stray, case))


class Parted(unittest.TestCase):
    def test_ordinary(self):
        self.assertEqual(parted(SHIRT, ("is", "size", "mid"), "yes", SHIRT_ROWS), ([1, 2, 4, 5], [0, 3]))
        self.assertEqual(parted(SHIRT, ("is", "size", "mid"), "no", SHIRT_ROWS), ([1, 4], [0, 2, 3, 5]))
        self.assertEqual(parted(SHIRT, ("upto", "size", "mid"), "no", SHIRT_ROWS), ([0, 1, 4], [2, 3, 5]))
        self.assertEqual(parted(SHIRT, ("upto", "size", "small"), "yes", SHIRT_ROWS), ([0, 2, 5], [1, 3, 4]))

    def test_all_on_one_side(self):
        rows = [(("mid", "no"), "keep")] * 3
        self.assertEqual(parted(SHIRT, ("is", "size", "mid"), "no", rows), ([0, 1, 2], []))
        self.assertEqual(parted(SHIRT, ("is", "size", "large"), "yes", rows), ([], [0, 1, 2]))

    def test_no_rows(self):
        for question, stray in every_asking(SHIRT):
            told = parted(SHIRT, question, stray, [])
            self.assertEqual(told, ([], []))
            self.assertIs(type(told), tuple)
            self.assertIsNot(told[0], told[1])

    def test_each_row_on_its_case_s_side_numbers_rising(self):
        for seed, form in enumerate(FORMS):
            rows = some_rows(form, 60, seed)
            for question, stray in every_asking(form):
                told = parted(form, question, stray, rows)
                sides = [side_by_the_words(form, question, stray, case) for case, answer in rows]
                right = tuple([[k for k in range(60) if sides[k] == side] for side in ["yes", "no"]])
                self.assertEqual(told, right)
                self.assertEqual([type(told), type(told[0]), type(told[1])], [tuple, list, list])

    def test_told_lists_that_are_changed_change_no_later_answer(self):
        question = ("is", "size", "mid")
        for rows in [SHIRT_ROWS, []]:
            kept = copy.deepcopy(parted(SHIRT, question, "yes", rows))
            told = parted(SHIRT, question, "yes", rows)
            told[0].append(7)
            told[1].clear()
            self.assertEqual(parted(SHIRT, question, "yes", rows), kept)

    def test_rows_handed_in_stay_and_are_not_kept(self):
        rows = list(SHIRT_ROWS)
        told = parted(SHIRT, ("is", "size", "mid"), "yes", rows)
        self.assertEqual(rows, SHIRT_ROWS)
        rows.clear()
        self.assertEqual(told, ([1, 2, 4, 5], [0, 3]))
        self.assertEqual(parted(SHIRT, ("is", "size", "mid"), "yes", rows), ([], []))


class HandedIn(unittest.TestCase):
    def test_nothing_handed_in_is_changed(self):
        form = copy.deepcopy(SHIRT)
        for thing in odd_things() + [["is", "size", "small"], (["is"], "size", ["small"])]:
            kept = copy.deepcopy(thing)
            is_question(form, thing)
            is_question(form, ("is", "size", thing))
            self.assertEqual(repr(thing), repr(kept))
        questions_of(form).clear()
        side_of(form, ("is", "size", "small"), "yes", (None, None))
        self.assertEqual(form, SHIRT)


if __name__ == "__main__":
    unittest.main()
