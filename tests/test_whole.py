"""The whole promise, over all modules: point 4, and of points 2 and 3 what no other test sees."""

import copy
import inspect
import unittest
from fractions import Fraction

import leafjudge.errors
from leafjudge.back import tree_of
from leafjudge.book import Book, changed
from leafjudge.counts import doubt_of
from leafjudge.desk import Desk
from leafjudge.errors import JudgeError
from leafjudge.growing import grown
from leafjudge.least import cost_of, least
from leafjudge.likes import alike
from leafjudge.pruning import is_pruning, least_pruning, steps
from leafjudge.questions import parted, questions_of
from leafjudge.rules import answered, rules_of
from leafjudge.short import shortened
from leafjudge.tables import holds
from leafjudge.trees import answer_of, coming, depth_of, is_tree, part_at
from leafjudge.treetexts import read_tree, shown_tree
from samples import SHIRT, WORDY, cases_by_the_words, form_of, places_of, some_rows, some_tree

# All of at most three hundred cases, so that rules can be shortened.
SMALL_FORMS = [SHIRT, WORDY, form_of([2]), form_of([5, 4], ("x", "y", "z", "w")),
               form_of([4, 4, 3, 2], ("x", "y", "z")), form_of([2, 2, 2, 2, 2])]


def some_grown():
    """Tuples (form, rows, tree) of trees that rows grow."""
    told = []
    for seed, form in enumerate(SMALL_FORMS * 3):
        rows = some_rows(form, [0, 1, 7, 25, 60][seed % 5], seed, like=[None, 9][seed % 2])
        told.append((form, rows, grown(form, rows, [6, 6, 3, 2][seed % 4], [1, 1, 2][seed % 3])))
    return told


class Whole(unittest.TestCase):
    def answers_alike(self, form, tree):
        """Each case is answered alike by the tree and by all that is made of it."""
        read = read_tree(form, shown_tree(tree))
        rules = rules_of(form, tree)
        short = shortened(form, rules)[0]
        back = tree_of(form, short)
        straight = tree_of(form, rules)
        self.assertEqual(read, tree)
        self.assertIs(is_tree(form, back), True)
        for case in cases_by_the_words(form):
            answer = answer_of(form, tree, case)
            self.assertEqual(answer_of(form, read, case), answer)
            self.assertEqual(answered(form, rules, case), answer)
            self.assertEqual(answered(form, short, case), answer)
            self.assertEqual(answer_of(form, back, case), answer)
            self.assertEqual(answer_of(form, straight, case), answer)
        self.assertEqual(alike(form, tree, back)[0], "alike")
        self.assertEqual(alike(form, read, tree)[0], "alike")

    def test_grown_trees_are_answered_alike_all_round(self):
        for form, rows, tree in some_grown():
            self.answers_alike(form, tree)

    def test_other_trees_are_answered_alike_all_round(self):
        for form in SMALL_FORMS:
            for seed in range(3):
                self.answers_alike(form, some_tree(form, 5, seed))

    def test_steps_are_answered_alike_all_round(self):
        for form, rows, tree in some_grown()[:8]:
            ahead = tree
            for price, part in steps(form, tree, rows):
                self.answers_alike(form, part)
                self.assertIs(is_pruning(form, ahead, rows, part), True)
                self.assertEqual(least_pruning(form, tree, rows, price), part)
                ahead = part

    def test_a_grown_tree_asks_a_best_question_and_says_a_most_given_answer(self):
        for seed, form in enumerate(SMALL_FORMS):
            rows, fewest = some_rows(form, 40, seed), [1, 3][seed % 2]
            tree = grown(form, rows, 6, fewest)
            for place in places_of(tree):
                there = [rows[number] for number in coming(form, tree, rows, place)]
                part = part_at(tree, place)
                if part[0] == "say":
                    answers = [answer for case, answer in there]
                    self.assertTrue(all(answers.count(part[1]) >= answers.count(answer) for answer in form[1]))
                else:
                    left = [self.doubt_left(form, there, question, stray, fewest)
                            for question in questions_of(form) for stray in ["yes", "no"]]
                    self.assertEqual(self.doubt_left(form, there, part[1], part[2], fewest),
                                     min(doubt for doubt in left if doubt is not None))

    def doubt_left(self, form, rows, question, stray, fewest):
        """The sum of both sides' doubts, None where a side has too few rows."""
        sides = [[rows[number] for number in numbers] for numbers in parted(form, question, stray, rows)]
        if min(map(len, sides)) < fewest:
            return None
        return sum(Fraction(*doubt_of(form, side)) for side in sides)

    def test_the_least_tree_costs_no_more_than_a_grown_one(self):
        for seed, form in enumerate([SHIRT, WORDY, form_of([3, 3])]):
            rows = some_rows(form, 12, seed)
            for prices in [(3, 1), (10, 1), (1, 0)]:
                tree, cost, table = least(form, rows, 2, prices)
                self.assertLessEqual(cost, cost_of(form, grown(form, rows, 2, 1), rows, prices))
                self.assertEqual(cost, cost_of(form, tree, rows, prices))
                self.assertLessEqual(depth_of(tree), 2)
                self.assertIs(holds(form, rows, prices, table), True)
                self.answers_alike(form, tree)

    def test_a_book_s_tree_is_what_its_rows_grow_anew(self):
        for seed, form in enumerate(SMALL_FORMS):
            book, ahead = Book(form, 4, 1), ("say", form[1][0])
            deeds = [lambda row: book.put(row), lambda row: book.turn(0, row), lambda row: book.put(row)]
            for step, row in enumerate(some_rows(form, 24, seed)):
                places = deeds[step % 3](row)[1]
                rows = [kept for number, kept in book.rows()]
                self.assertEqual(book.tree(), grown(form, rows, 4, 1))
                self.assertEqual(places, changed(ahead, book.tree()))
                ahead = book.tree()
            self.answers_alike(form, book.tree())

    def test_a_desk_judges_as_its_tree_and_its_rules(self):
        for seed, form in enumerate(SMALL_FORMS):
            desk = Desk(form, 6, 1)
            rows = some_rows(form, 20, seed)
            for case, answer in rows:
                desk.say(" ".join(["put"] + ["-" if entry is None else entry for entry in case] + [answer]))
            tree = read_tree(form, desk.say("tree"))
            self.assertEqual(tree, grown(form, rows, 6, 1))
            for case in cases_by_the_words(form)[::5]:
                words = " ".join(["-" if entry is None else entry for entry in case])
                self.assertEqual(desk.say("judge " + words), answer_of(form, tree, case))


class Refusals(unittest.TestCase):
    def test_one_base_and_none_under_another(self):
        found = [kind for name, kind in inspect.getmembers(leafjudge.errors, inspect.isclass)]
        self.assertEqual(len(found), 8)
        for kind in found:
            self.assertEqual(kind.__bases__, (ValueError,) if kind is JudgeError else (JudgeError,))


class Own(unittest.TestCase):
    def test_nothing_hangs_on_what_was_asked_before(self):
        for form, rows, tree in some_grown()[2:8]:
            def ask():
                rules = rules_of(form, tree)
                return copy.deepcopy([grown(form, rows, 6, 1), steps(form, tree, rows), rules, shortened(form, rules),
                                      tree_of(form, rules), alike(form, tree, tree)])

            kept = copy.deepcopy((form, rows, tree))
            first = ask()
            for told in ask():
                if isinstance(told, list):
                    told.clear()
            # Fits any that is right; what is told here is the same each time.
            self.assertEqual(ask(), first)
            self.assertEqual((form, rows, tree), kept)

    def test_lists_and_tuples_all_the_way_down(self):
        for form, rows, tree in some_grown():
            rules = rules_of(form, tree)
            short, shows = shortened(form, rules)
            told = steps(form, tree, rows)
            self.assertTrue(all(type(entry) is tuple for entry in told + rules + short + shows))
            self.assertTrue(all(type(price) is tuple for price, part in told))
            self.assertTrue(all(type(let) is tuple for lets, answer in rules + short for let in lets))
            self.assertTrue(all(type(lets) is tuple for lets, answer in rules + short))
            self.assertTrue(all(type(case) is tuple and type(more) is list for case, more in shows))
            found = [entry for case, more in shows for entry in more]
            self.assertTrue(all(type(entry) is tuple and type(entry[2]) is tuple for entry in found))
            pieces = alike(form, tree, tree_of(form, short))[1]
            self.assertIs(type(pieces), list)
            self.assertTrue(all(type(lets) is tuple and all(type(let) is tuple for let in lets) for lets in pieces))


if __name__ == "__main__":
    unittest.main()
