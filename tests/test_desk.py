"""Desks, their texts and answers: point 29."""

import copy
import inspect
import random
import unittest

from leafjudge import desk as desk_module
from leafjudge.book import Book
from leafjudge.desk import Desk
from leafjudge.errors import JudgeError, NoLine, NoRow, NoSuch, TooMany
from leafjudge.growing import grown
from leafjudge.pruning import steps
from leafjudge.rules import rules_of
from leafjudge.trees import answer_of, knots_in, way_of
from leafjudge.treetexts import read_tree, shown_tree
from samples import FORMS, LADDER, SHIRT, SHIRT_CASES, WORDY, form_of, some_rows

ASKING = ["tree", "rows", "rules", "steps"]
# Texts of the form SHIRT that are refused with NoLine, whatever rows there are.
NO_LINES = [
    "", " ", "  ", "-", "no", "trees", "Tree", "TREE", "say keep", "ask", "none", "put,", "0", "ok", "quit",
    " tree", " put small no keep", " judge small no",
    "tree ", "tree  ", "tree 0", "tree tree", "tree -", "rows ", "rows 0", "rows all", "rules ", "rules x", "rules 1",
    "steps ", "steps 0", "steps steps",
    "out", "out ", "out  ", "out  0", "out 0 ", "out 0 0", "out 0 small no keep", "out x", "out -", "out small",
    "out -1", "out +1", "out -0", "out +0", "out 00", "out 01", "out 007", "out 0x1", "out 1.0", "out 1,", "out 1_0",
    "out 1234567890", "out 0123456789", "out 1000000000", "out 99999999999999999999", "out one",
    "turn", "turn ", "turn  ", "turn  0 small no keep", "turn small no keep", "turn x small no keep",
    "turn - small no keep", "turn -1 small no keep", "turn +0 small no keep", "turn 00 small no keep",
    "turn 01 small no keep", "turn 1234567890 small no keep", "turn 0000000000 small no keep", "turn 0, small no keep",
    "puts small no keep", "Put small no keep", "judges small no", "whys small no", "judge~small no",
]
# What stands behind put, or behind turn and a number, where a row should stand.
NO_ROWS = [
    "", " ", " keep", " small keep", " small", " small no", " small no small", " small no keep keep",
    " small no no keep", " no small keep", " small no -", " - - -", " small no ", " small  keep", "  small no keep",
    "  small no", " small no keep ", " Small no keep", " small no Keep", " none no keep", " small None keep",
    " small -- keep", " small no yes", " x no keep", " small no size", " 0 0 0", " -", " - -", " small , keep",
]
# What stands behind judge or why where a case should stand.
NO_CASES = [
    "", " ", " small", " -", " small no keep", " no small", " small no no", " small -- ", " small ", "  no",
    "  small no", " small no ", " Small no", " small None", " keep no", " small no -", " - - -", " x y", " 0 0",
]


class Interface(unittest.TestCase):
    def test_arguments(self):
        self.assertEqual(list(inspect.signature(desk_module.Desk).parameters), ["form", "deep", "least"])
        self.assertEqual(list(inspect.signature(desk_module.Desk.say).parameters), ["self", "text"])


def words_of(entries):
    return " ".join(["-" if entry is None else entry for entry in entries])


def rules_by_the_words(form, rules):
    told = []
    for lets, answer in rules:
        parts = []
        for (name, values), let in zip(form[0], lets):
            if set(let) != set(values) | {None}:
                parts.append(name + " in " + "/".join("-" if entry is None else entry for entry in let))
        told.append((" and ".join(parts) or "all") + " : " + answer)
    return "; ".join(told)


def filled(form, rows, deep=6, least=1):
    desk = Desk(form, deep, least)
    for number, (case, answer) in enumerate(rows):
        assert desk.say("put " + words_of(case + (answer,))) == str(number)
    return desk


class Texts(unittest.TestCase):
    def are_told(self, desk, pairs):
        for text, answer in pairs:
            self.assertEqual(desk.say(text), answer, text)
            self.assertIs(type(desk.say("tree")), str)

    def test_no_rows(self):
        self.are_told(Desk(SHIRT, 6, 1), [
            ("tree", "say keep"), ("rows", "none"), ("judge small no", "keep"), ("why - -", "keep"),
            ("rules", "all : keep"), ("steps", "0/1 0")])

    def test_ordinary(self):
        self.are_told(Desk(SHIRT, 6, 1), [
            ("put small no keep", "0"), ("put large - give", "1"), ("put - no give", "2"), ("put small yes give", "3"),
            ("rows", "0 small no keep, 1 large - give, 2 - no give, 3 small yes give"),
            ("tree", "ask size is small no ask dyed is no yes say keep say give say give"),
            ("judge small no", "keep"), ("judge small -", "keep"), ("judge mid no", "give"), ("judge - -", "give"),
            ("why small no", "size is small yes, dyed is no yes, keep"), ("why mid -", "size is small no, give"),
            ("why - no", "size is small no, give"), ("why small yes", "size is small yes, dyed is no no, give"),
            ("rules", "size in small and dyed in no/- : keep; size in small and dyed in yes : give; "
                      "size in mid/large/- : give"),
            ("steps", "0/1 2, 1/2 0"),
            ("out 0", "ok"), ("rows", "1 large - give, 2 - no give, 3 small yes give"), ("tree", "say give"),
            ("rules", "all : give"), ("steps", "0/1 0"), ("why small no", "give"),
            ("turn 2 mid no keep", "ok"), ("rows", "1 large - give, 2 mid no keep, 3 small yes give"),
            ("tree", "ask size is mid yes say keep say give"), ("why - -", "size is mid yes, keep"),
            ("rules", "size in mid/- : keep; size in small/large : give"), ("steps", "0/1 1, 1/1 0"),
            ("put - - keep", "4"), ("out 4", "ok"), ("put - - keep", "5"), ("turn 5 small - give", "ok"),
            ("rows", "1 large - give, 2 mid no keep, 3 small yes give, 5 small - give")])

    def test_names_that_are_words_of_the_texts(self):
        form = ((("rows", ("put", "out", "tree")), ("in", ("all", "none"))), ("ok", "and"))
        self.are_told(Desk(form, 6, 1), [
            ("put put all ok", "0"), ("put out none and", "1"), ("put - - and", "2"), ("put tree all ok", "3"),
            ("rows", "0 put all ok, 1 out none and, 2 - - and, 3 tree all ok"),
            ("tree", "ask rows is out yes say and say ok"), ("judge put all", "ok"), ("judge tree none", "ok"),
            ("why out -", "rows is out yes, and"), ("why tree all", "rows is out no, ok"),
            ("rules", "rows in out/- : and; rows in put/tree : ok"), ("turn 0 out none and", "ok"), ("out 3", "ok"),
            ("rules", "all : and"), ("rows", "0 out none and, 1 out none and, 2 - - and")])

    def test_last_words_that_are_texts_by_themselves(self):
        form = ((("why", ("steps", "rules")), ("judge", ("tree", "rows"))), ("steps", "rules"))
        self.are_told(Desk(form, 6, 1), [
            ("put steps tree rules", "0"), ("judge - tree", "rules"), ("why steps rows", "rules"),
            ("put rules rows steps", "1"), ("tree", "ask why is steps yes say rules say steps"),
            ("judge rules rows", "steps"), ("judge steps tree", "rules"), ("why - rows", "why is steps yes, rules"),
            ("why rules tree", "why is steps no, steps"), ("turn 1 steps rows rules", "ok"), ("rules", "all : rules"),
            ("rows", "0 steps tree rules, 1 steps rows rules"), ("steps", "0/1 0")])

    def test_upto(self):
        form = form_of([4])
        rows = [(("a",), "x"), (("aa",), "x"), (("aaa",), "y"), (("aaaa",), "y"), ((None,), "y")]
        self.are_told(filled(form, rows), [
            ("tree", "ask f upto aa no say x say y"), ("why aa", "f upto aa yes, x"), ("why -", "f upto aa no, y"),
            ("rules", "f in a/aa : x; f in aaa/aaaa/- : y"), ("steps", "0/1 1, 2/1 0")])

    def test_great_numbers(self):
        desk = Desk(SHIRT, 0, 1)
        for number in range(120):
            self.assertEqual(desk.say("put small no keep"), str(number))
            if number != 7 and number < 115:
                self.assertEqual(desk.say("out " + str(number)), "ok")
        told = [str(number) + " small no keep" for number in [7, 115, 116, 117, 118, 119]]
        self.assertEqual(desk.say("rows"), ", ".join(told))
        for text in ["out 999999999", "out 100000000", "turn 999999999 small no keep"]:
            with self.assertRaises(NoSuch):
                desk.say(text)
        self.assertEqual(desk.say("turn 117 - - give"), "ok")
        self.assertEqual(desk.say("out 116"), "ok")
        self.assertEqual(desk.say("rows").split(", ")[2], "117 - - give")

    def test_by_the_words(self):
        for seed, form in enumerate(FORMS * 2 + [form_of([5, 5, 5, 5, 5], ("x", "y", "z", "w"))]):
            chance = random.Random(seed)
            deep, least = [(6, 1), (3, 1), (6, 2), (2, 5), (0, 1), (6, 60), (6, 1)][seed]
            desk, book = Desk(form, deep, least), Book(form, deep, least)
            for row in some_rows(form, 45, seed):
                words = words_of(row[0] + (row[1],))
                numbers = [number for number, kept in book.rows()]
                deed = chance.choice(["put", "put", "out", "turn"]) if numbers else "put"
                if deed == "put":
                    self.assertEqual(desk.say("put " + words), str(book.put(row)[0]))
                elif deed == "out":
                    number = chance.choice(numbers)
                    book.out(number)
                    self.assertEqual(desk.say("out " + str(number)), "ok")
                else:
                    number = chance.choice(numbers)
                    book.turn(number, row)
                    self.assertEqual(desk.say("turn " + str(number) + " " + words), "ok")
                self.is_as(desk, form, book, [case for case, answer in some_rows(form, 3, number if numbers else 0)])

    def is_as(self, desk, form, book, cases):
        """The desk answers of its book as the modules do of this one."""
        tree = book.tree()
        rows = [row for number, row in book.rows()]
        self.assertEqual(desk.say("tree"), shown_tree(tree))
        self.assertEqual(read_tree(form, desk.say("tree")), tree)
        told = [" ".join([str(number), words_of(row[0]), row[1]]) for number, row in book.rows()]
        self.assertEqual(desk.say("rows"), ", ".join(told) or "none")
        self.assertEqual(desk.say("rules"), rules_by_the_words(form, rules_of(form, tree)))
        told = [f"{top}/{bottom} {knots_in(part)}" for (top, bottom), part in steps(form, tree, rows)]
        self.assertEqual(desk.say("steps"), ", ".join(told))
        for case in cases:
            answer = answer_of(form, tree, case)
            self.assertEqual(desk.say("judge " + words_of(case)), answer)
            way = [f"{field} {kind} {value} {side}, " for (kind, field, value), side in way_of(form, tree, case)]
            self.assertEqual(desk.say("why " + words_of(case)), "".join(way) + answer)

    def test_deep_and_least(self):
        for form in FORMS:
            rows = some_rows(form, 20, 2)
            for deep, least in [(0, 1), (1, 1), (6, 1), (6, 4), (6, 60)]:
                desk = filled(form, rows, deep, least)
                self.assertEqual(desk.say("tree"), shown_tree(grown(form, rows, deep, least)))

    def test_asking_changes_nothing(self):
        desk = filled(WORDY, some_rows(WORDY, 20, 4))
        kept = [desk.say(text) for text in ASKING]
        desk.say("judge yes is ask")
        desk.say("why - - -")
        self.assertEqual([desk.say(text) for text in ASKING], kept)

    def test_two_desks_are_two(self):
        one, other = Desk(SHIRT, 6, 1), Desk(SHIRT, 6, 1)
        one.say("put small no give")
        self.assertEqual((other.say("rows"), other.say("tree")), ("none", "say keep"))
        self.assertEqual(other.say("put small no keep"), "0")

    def test_the_form_stays(self):
        form = copy.deepcopy(SHIRT)
        desk = Desk(form, 6, 1)
        desk.say("put small no give")
        desk.say("rules")
        self.assertEqual(form, SHIRT)


class Refusals(unittest.TestCase):
    def is_refused(self, desk, error, text):
        kept = [desk.say(asking) for asking in ASKING]
        with self.assertRaises(JudgeError) as taken:
            desk.say(text)
        self.assertIs(type(taken.exception), error, text)
        self.assertEqual([desk.say(asking) for asking in ASKING], kept)

    def some_desks(self):
        """Desks of the form SHIRT with no rows, with a few, and with sixty."""
        return [(filled(SHIRT, some_rows(SHIRT, many, 1)), many) for many in [0, 4, 60]]

    def test_no_line(self):
        for desk, many in self.some_desks():
            for text in NO_LINES:
                self.is_refused(desk, NoLine, text)

    def test_no_line_goes_ahead_of_all_else(self):
        # Of these numbers no row has any, the rows are none, and the book is full.
        for desk, many in self.some_desks():
            for text in ["out 1000 x", "out 0999", "turn 0999 x", "turn +999 x", "out -999", "tree x y keep", "rows -",
                         "turn  x", "steps small no keep", "put0 small no keep"]:
                self.is_refused(desk, NoLine, text)

    def test_no_row_of_put(self):
        for desk, many in self.some_desks():
            for text in NO_ROWS:
                self.is_refused(desk, NoRow, "put" + text)

    def test_no_row_of_turn(self):
        for desk, many in self.some_desks()[1:]:
            for text in NO_ROWS:
                self.is_refused(desk, NoRow, "turn 2" + text)

    def test_of_turn_no_such_goes_ahead_of_no_row(self):
        for desk, many in self.some_desks():
            for text in NO_ROWS + [" small no keep"]:
                self.is_refused(desk, NoSuch, "turn " + str(many) + text)
                self.is_refused(desk, NoSuch, "turn 999999999" + text)

    def test_no_row_of_judge_and_why(self):
        for desk, many in self.some_desks():
            for text in NO_CASES:
                self.is_refused(desk, NoRow, "judge" + text)
                self.is_refused(desk, NoRow, "why" + text)

    def test_no_such_of_out(self):
        for desk, many in self.some_desks():
            for number in [many, many + 1, 100, 999999999]:
                self.is_refused(desk, NoSuch, "out " + str(number))
        desk = self.some_desks()[1][0]
        desk.say("out 2")
        self.is_refused(desk, NoSuch, "out 2")
        self.is_refused(desk, NoSuch, "turn 2 small no keep")

    def test_too_many_rows(self):
        desk = self.some_desks()[2][0]
        self.is_refused(desk, TooMany, "put small no keep")
        self.is_refused(desk, NoRow, "put small no x")
        self.assertEqual(desk.say("turn 59 small no keep"), "ok")
        self.assertEqual(desk.say("out 59"), "ok")
        # What was refused took no number.
        self.assertEqual(desk.say("put small no keep"), "60")
        self.is_refused(desk, TooMany, "put - - give")

    def test_what_was_refused_took_no_number(self):
        desk = Desk(SHIRT, 6, 1)
        for text in ["put", "put x", "put small no", "out 0", "turn 0 small no keep"]:
            with self.assertRaises(JudgeError):
                desk.say(text)
        self.assertEqual(desk.say("put small no keep"), "0")

    def test_every_right_row_and_case(self):
        desk = Desk(SHIRT, 6, 1)
        for number, case in enumerate(SHIRT_CASES):
            for k, answer in enumerate(SHIRT[1]):
                self.assertEqual(desk.say("put " + words_of(case + (answer,))), str(2 * number + k))
            self.assertIn(desk.say("judge " + words_of(case)), SHIRT[1])

    def test_another_form_s_words(self):
        desk = Desk(LADDER, 6, 1)
        for text in ["put small no keep", "put p q r", "put p q r s q q", "put p q r s", "put r q r s p",
                     "put p q r s s"]:
            self.is_refused(desk, NoRow, text)
        self.assertEqual(desk.say("put p q r s q"), "0")
        self.assertEqual(desk.say("judge - - - -"), "q")


if __name__ == "__main__":
    unittest.main()
