"""Trees written as texts and read from them: point 13."""

import copy
import inspect
import unittest

from leafjudge import treetexts
from leafjudge.errors import JudgeError, NoText
from leafjudge.trees import depth_of, is_tree, knots_in
from leafjudge.treetexts import read_tree, shown_tree
from samples import FORMS, LADDER, SHIRT, WORDY, bushy, chain, every_asking, some_tree

SHIRT_TEXT = "ask size is small no ask dyed is yes yes say give say keep ask size upto mid no say keep say give"
SHIRT_TREE = (
    "ask", ("is", "size", "small"), "no",
    ("ask", ("is", "dyed", "yes"), "yes", ("say", "give"), ("say", "keep")),
    ("ask", ("upto", "size", "mid"), "no", ("say", "keep"), ("say", "give")),
)
# What each of its words is, by its letter: b where a tree begins, a answer, f field, k kind, v value, s side.
SHIRT_KINDS = "bfkvs" + "bfkvs" + "ba" + "ba" + "bfkvs" + "ba" + "ba"
# For each of these, words that are none where one should stand in SHIRT_TEXT.
WRONG_WORDS = {
    "b": ["", "saY", "sayy", "tell", "is", "size", "keep", "yes", "0"],
    "a": ["", "small", "size", "yes", "no", "say", "ask", "Keep", "kee", "keeps", "-"],
    "f": ["", "small", "keep", "is", "say", "ask", "siz", "sizes", "Size"],
    "k": ["", "are", "size", "small", "say", "ask", "yes", "Is", "upt", "uptos"],
    "v": ["", "size", "keep", "is", "say", "smal", "smalls", "None", "-"],
    "s": ["", "maybe", "small", "is", "keep", "say", "ask", "Yes", "yess", "None"],
}


def text_by_the_words(tree):
    if tree[0] == "say":
        return "say " + tree[1]
    kind, field, value = tree[1]
    return "ask " + field + " " + kind + " " + value + " " + tree[2] + " " + " ".join(map(text_by_the_words, tree[3:]))


def asks_in(text):
    """The numbers of the words "ask", of a text whose names are none."""
    return [k for k, word in enumerate(text.split(" ")) if word == "ask"]


def some_trees(form):
    leaves = [("say", answer) for answer in form[1]]
    knots = [("ask", question, stray, leaves[0], leaves[-1]) for question, stray in every_asking(form)]
    chains = [chain(form, deep, sides) for deep in [2, 9, 30] for sides in [("yes",), ("no",), ("no", "yes", "yes")]]
    return leaves + knots + chains + [bushy(form, knots) for knots in [2, 3, 50, 499, 500]] + [
        some_tree(form, deep, seed) for seed in range(10) for deep in range(7)]


class Interface(unittest.TestCase):
    def test_arguments(self):
        for name, arguments in {"shown_tree": ["tree"], "read_tree": ["form", "text"]}.items():
            self.assertEqual(list(inspect.signature(getattr(treetexts, name)).parameters), arguments)


class Shown(unittest.TestCase):
    def test_leaves(self):
        self.assertEqual(shown_tree(("say", "keep")), "say keep")
        self.assertEqual(shown_tree(("say", "say")), "say say")
        self.assertEqual(shown_tree(("say", "ask")), "say ask")

    def test_knots(self):
        self.assertEqual(shown_tree(SHIRT_TREE), SHIRT_TEXT)
        tree = ("ask", ("upto", "size", "mid"), "yes", ("say", "keep"), ("say", "give"))
        self.assertEqual(shown_tree(tree), "ask size upto mid yes say keep say give")

    def test_names_that_are_words_of_the_texts(self):
        tree = ("ask", ("is", "say", "ask"), "no", ("say", "ask"), ("ask", ("upto", "is", "no"), "yes", ("say", "say"),
                                                                  ("say", "no")))
        self.assertEqual(shown_tree(tree), "ask say is ask no say ask ask is upto no yes say say say no")
        self.assertEqual(read_tree(WORDY, shown_tree(tree)), tree)

    def test_by_the_words_and_read_again(self):
        for form in FORMS:
            for tree in some_trees(form):
                text = shown_tree(tree)
                self.assertEqual(text, text_by_the_words(tree))
                self.assertIs(type(text), str)
                self.assertEqual(read_tree(form, text), tree)


class Read(unittest.TestCase):
    def test_ordinary(self):
        self.assertEqual(read_tree(SHIRT, SHIRT_TEXT), SHIRT_TREE)
        self.assertEqual(read_tree(SHIRT, "say give"), ("say", "give"))
        self.assertIs(is_tree(SHIRT, read_tree(SHIRT, SHIRT_TEXT)), True)

    def test_each_asking(self):
        for form in FORMS:
            for (kind, field, value), stray in every_asking(form):
                answer = form[1][1]
                told = read_tree(form, f"ask {field} {kind} {value} {stray} say {answer} say {answer}")
                self.assertEqual(told, ("ask", (kind, field, value), stray, ("say", answer), ("say", answer)))

    def test_thirty_deep_and_five_hundred_knots(self):
        for form in FORMS:
            for tree in [chain(form, 30, ("yes",)), chain(form, 30, ("no",)), bushy(form, 500)]:
                told = read_tree(form, text_by_the_words(tree))
                self.assertEqual(told, tree)
                self.assertIs(is_tree(form, told), True)


class Refused(unittest.TestCase):
    def is_refused(self, form, text, at):
        with self.assertRaises(NoText) as taken:
            read_tree(form, text)
        self.assertEqual(taken.exception.at, at, text[:300])
        self.assertIs(type(taken.exception.at), int)
        self.assertIsInstance(taken.exception, JudgeError)

    def test_an_empty_text_and_blanks_alone(self):
        for text in ["", " ", "  ", "     "]:
            self.is_refused(SHIRT, text, 0)

    def test_two_blanks_side_by_side(self):
        words = SHIRT_TEXT.split(" ")
        for k in range(1, len(words)):
            self.is_refused(SHIRT, " ".join(words[:k]) + "  " + " ".join(words[k:]), k)
        self.is_refused(SHIRT, "say  keep", 1)
        self.is_refused(SHIRT, "say   keep", 1)

    def test_a_blank_ahead_and_behind(self):
        self.is_refused(SHIRT, " say keep", 0)
        self.is_refused(SHIRT, "say keep ", 2)
        self.is_refused(SHIRT, "say keep  ", 2)
        self.is_refused(SHIRT, " " + SHIRT_TEXT, 0)
        self.is_refused(SHIRT, SHIRT_TEXT + " ", len(SHIRT_KINDS))

    def test_a_word_too_many(self):
        for more in ["say", "ask", "keep", "say keep", "x y z", "-", SHIRT_TEXT]:
            self.is_refused(SHIRT, "say keep " + more, 2)
            self.is_refused(SHIRT, SHIRT_TEXT + " " + more, len(SHIRT_KINDS))

    def test_words_that_lack_at_each_place(self):
        for form, text in [(SHIRT, SHIRT_TEXT), (WORDY, shown_tree(bushy(WORDY, 9))), (SHIRT, "say keep")]:
            words = text.split(" ")
            for k in range(1, len(words)):
                self.is_refused(form, " ".join(words[:k]), k)
                self.is_refused(form, " ".join(words[:k]) + " ", k)

    def test_a_word_that_is_none_at_each_place(self):
        words = SHIRT_TEXT.split(" ")
        self.assertEqual(len(words), len(SHIRT_KINDS))
        for k, kind in enumerate(SHIRT_KINDS):
            for wrong in WRONG_WORDS[kind]:
                self.is_refused(SHIRT, " ".join(words[:k] + [wrong] + words[k + 1:]), k)
                self.is_refused(SHIRT, " ".join(words[:k] + [wrong]), k)

    def test_the_first_of_several_counts(self):
        words = SHIRT_TEXT.split(" ")
        for k in range(len(words)):
            self.is_refused(SHIRT, " ".join(words[:k] + ["x"] * (len(words) - k)), k)
        self.is_refused(SHIRT, "ask size are small maybe say keep", 2)

    def test_values_of_another_field(self):
        self.is_refused(SHIRT, "ask size is no no say keep say give", 3)
        self.is_refused(SHIRT, "ask dyed is small no say keep say give", 3)
        self.is_refused(SHIRT, "ask dyed upto mid no say keep say give", 3)

    def test_the_last_value_behind_upto(self):
        self.is_refused(SHIRT, "ask size upto large no say keep say give", 3)
        self.is_refused(SHIRT, "ask dyed upto yes no say keep say give", 3)
        self.is_refused(SHIRT, "ask size is mid no say keep ask size upto large yes say keep say give", 10)
        for field, values in LADDER[0]:
            self.is_refused(LADDER, f"ask {field} upto {values[-1]} no say p say q", 3)

    def test_the_words_of_a_question_in_another_order(self):
        self.is_refused(SHIRT, "ask is size small no say keep say give", 1)
        self.is_refused(SHIRT, "ask size small is no say keep say give", 2)

    def test_signs_that_are_in_no_word(self):
        for text, at in [("say keep.", 1), ("say,keep", 0), ("(say keep)", 0), ("say keep;", 1), ("SAY KEEP", 0)]:
            self.is_refused(SHIRT, text, at)

    def test_the_five_hundred_and_first_knot(self):
        for knots in [501, 502, 520]:
            text = text_by_the_words(bushy(SHIRT, knots))
            self.is_refused(SHIRT, text, asks_in(text)[500])

    def test_the_five_hundred_and_first_wherever_it_stands(self):
        for one, other in [(500, 0), (0, 500), (250, 250), (499, 1), (1, 499)]:
            tree = ("ask", ("is", "dyed", "no"), "no", bushy(SHIRT, one), bushy(SHIRT, other))
            self.assertEqual(knots_in(tree), 501)
            text = text_by_the_words(tree)
            self.is_refused(SHIRT, text, asks_in(text)[500])
            # Told at the word itself, whatever stands behind it.
            beginning = " ".join(text.split(" ")[:asks_in(text)[500] + 1])
            self.is_refused(SHIRT, beginning, asks_in(text)[500])
            self.is_refused(SHIRT, beginning + " x", asks_in(text)[500])

    def test_a_knot_within_thirty_others(self):
        for sides in [("yes",), ("no",), ("yes", "no"), ("no", "no", "yes")]:
            for deep in [31, 32, 60]:
                text = text_by_the_words(chain(SHIRT, deep, sides))
                self.is_refused(SHIRT, text, asks_in(text)[30])
                self.is_refused(SHIRT, " ".join(text.split(" ")[:asks_in(text)[30] + 1]), asks_in(text)[30])

    def test_a_knot_within_thirty_others_behind_other_knots(self):
        tree = ("ask", ("is", "dyed", "no"), "no", bushy(SHIRT, 100), chain(SHIRT, 30))
        self.assertEqual(depth_of(tree), 31)
        text = text_by_the_words(tree)
        self.is_refused(SHIRT, text, asks_in(text)[130])

    def test_a_text_of_asks_alone(self):
        self.is_refused(SHIRT, "ask size is mid no " * 900, 150)
        self.is_refused(SHIRT, "ask " * 4000, 1)
        self.is_refused(SHIRT, "say " * 4000, 1)

    def test_a_refusal_changes_nothing(self):
        form = copy.deepcopy(SHIRT)
        for step in range(2):
            self.is_refused(form, SHIRT_TEXT + " x", len(SHIRT_KINDS))
            self.assertEqual(read_tree(form, SHIRT_TEXT), SHIRT_TREE)
        shown_tree(SHIRT_TREE)
        self.assertEqual(form, SHIRT)
        self.assertEqual(text_by_the_words(SHIRT_TREE), SHIRT_TEXT)


if __name__ == "__main__":
    unittest.main()
