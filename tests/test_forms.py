"""Names and forms: point 5."""

import copy
import inspect
import unittest

from leafjudge import forms
from leafjudge.forms import is_form, is_name
from samples import SHIRT, form_of, names, odd_things

ANSWERS = ("x", "y")
FIELD = ("f", ("a", "b"))


class Asked(unittest.TestCase):
    def is_told(self, told, asked, things):
        for thing in things:
            self.assertIs(asked(thing), told, repr(thing)[:200])


class Interface(unittest.TestCase):
    def test_arguments(self):
        for name in ["is_name", "is_form"]:
            self.assertEqual(list(inspect.signature(getattr(forms, name)).parameters), ["thing"])


class Names(Asked):
    def test_one_to_eight_letters(self):
        self.is_told(True, is_name, ["a", "z", "ab", "zz", "abcdefg", "abcdefgh", "zzzzzzzz", "none", "is", "upto"])

    def test_each_sign_by_itself_and_within(self):
        for sign in [chr(k) for k in range(ord(" "), ord("~") + 1)]:
            small = sign in "abcdefghijklmnopqrstuvwxyz"
            for text in [sign, sign + "b", "b" + sign, "bb" + sign + "bb", "bbbbbbb" + sign]:
                self.assertIs(is_name(text), small, text)

    def test_each_length(self):
        for many in range(30):
            self.assertIs(is_name("q" * many), 1 <= many <= 8, many)

    def test_no_text(self):
        self.is_told(False, is_name, [("a",), ["a"], ("a", "b"), ["a", "b"], [["a"]], 7, True, None])

    def test_any_thing(self):
        self.is_told(False, is_name, odd_things())


class Forms(Asked):
    def test_ordinary(self):
        self.is_told(True, is_form, [SHIRT, ((FIELD,), ANSWERS)])

    def test_how_many_fields(self):
        for many in range(9):
            self.assertIs(is_form(form_of([2] * many)), 1 <= many <= 5, many)

    def test_how_many_values_in_each_field(self):
        for many in range(9):
            for counts in [[many], [many, 2, 2], [2, 5, many], [5, 5, 5, 5, many]]:
                self.assertIs(is_form(form_of(counts)), 2 <= many <= 5, counts)

    def test_how_many_answers(self):
        for many in range(9):
            self.assertIs(is_form(((FIELD,), names(many))), 2 <= many <= 4, many)

    def test_greatest(self):
        self.is_told(True, is_form, [form_of([5] * 5, names(4)), form_of([5] * 5, names(4, "zz"))])

    def test_names_of_other_kinds_may_be_alike(self):
        self.is_told(True, is_form, [
            ((("a", ("a", "b")), ("b", ("a", "b"))), ("a", "b")),
            ((("a", ("b", "a")), ("b", ("b", "a"))), ("b", "a")),
            ((("abcdefgh", ("abcdefgh", "a")),), ("abcdefgh", "a")),
        ])

    def test_names_that_are_beginnings_of_one_another(self):
        self.is_told(True, is_form, [((("a", ("b", "bc")), ("ab", ("bcd", "bc", "b"))), ("y", "yy", "yyy"))])

    def test_any_order(self):
        self.is_told(True, is_form, [((("z", ("d", "c")), ("a", ("b", "c", "a"))), ("y", "x"))])

    def test_a_name_told_twice(self):
        self.is_told(False, is_form, [
            ((FIELD, FIELD), ANSWERS),
            ((("a", ("a", "b")), ("b", ("a", "b")), ("a", ("c", "d"))), ANSWERS),
            ((("f", ("a", "a")),), ANSWERS),
            ((FIELD, ("g", ("a", "b", "c", "d", "a"))), ANSWERS),
            ((FIELD, ("g", ("a", "b", "b"))), ANSWERS),
            ((FIELD,), ("x", "x")),
            ((FIELD,), ("x", "y", "z", "y")),
        ])

    def test_a_thing_that_is_no_name(self):
        for wrong in ["", "A", "abcdefghi", "a b", "a1", "-", None, 1, True, ("a",), ["a"], []]:
            self.is_told(False, is_form, [
                (((wrong, ("a", "b")),), ANSWERS),
                ((FIELD, (wrong, ("a", "b"))), ANSWERS),
                ((("f", (wrong, "b")),), ANSWERS),
                ((("f", ("a", "b", wrong)),), ANSWERS),
                ((FIELD,), (wrong, "y")),
                ((FIELD,), ("x", "y", wrong)),
            ])

    def test_another_thing_in_the_place_of_a_tuple(self):
        for wrong in [None, "ab", "", 2, True, (), []]:
            self.is_told(False, is_form, [
                wrong, (wrong, ANSWERS), ((FIELD,), wrong), ((wrong,), ANSWERS), ((FIELD, wrong), ANSWERS),
                ((("f", wrong),), ANSWERS), ((FIELD, ("g", wrong)), ANSWERS),
            ])

    def test_a_list_in_the_place_of_a_tuple(self):
        self.is_told(False, is_form, [
            [(FIELD,), ANSWERS], ([FIELD], ANSWERS), ((FIELD,), ["x", "y"]),
            ((["f", ("a", "b")],), ANSWERS), ((FIELD, ["g", ("a", "b")]), ANSWERS), ((("f", ["a", "b"]),), ANSWERS),
        ])

    def test_a_thing_more_or_fewer(self):
        self.is_told(False, is_form, [
            ((FIELD,),), ((FIELD,), ANSWERS, ()), ((FIELD,), ANSWERS, ANSWERS), (ANSWERS, (FIELD,)),
            ((("f",),), ANSWERS), ((("f", ("a", "b"), None),), ANSWERS), (((("a", "b"), "f"),), ANSWERS),
            ((("f", "a", "b"),), ANSWERS), (FIELD, ANSWERS),
        ])

    def test_any_thing(self):
        self.is_told(False, is_form, odd_things())
        for thing in odd_things():
            self.is_told(False, is_form, [(thing, ANSWERS), ((FIELD,), thing), (thing, thing), [thing, ANSWERS]])

    def test_nothing_handed_in_is_changed(self):
        for make in [lambda thing: thing, lambda thing: [thing], lambda thing: ((("f", thing),), [thing])]:
            for thing in odd_things():
                handed = make(thing)
                kept = copy.deepcopy(handed)
                is_name(handed)
                is_form(handed)
                self.assertEqual(repr(handed), repr(kept))


if __name__ == "__main__":
    unittest.main()
