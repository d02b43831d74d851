"""A desk, which is told texts and answers texts of a book."""

from leafjudge.book import Book
from leafjudge.cases import entries_of, is_case
from leafjudge.errors import NoLine, NoRow
from leafjudge.pruning import steps
from leafjudge.rules import rules_of
from leafjudge.trees import answer_of, knots_in, way_of
from leafjudge.treetexts import shown_tree

FIGURES = "0123456789"
MOST_FIGURES = 9
SINGLE_WORDS = ("tree", "rows", "rules", "steps")
LACKING = "-"


class Desk:
    """A book, with the texts by which it is changed and asked."""

    def __init__(self, form, deep, least):
        self.form = form
        self.book = Book(form, deep, least)

    def say(self, text):
        """The answer to the text."""
        words = text.split(" ")
        if not is_line(words):
            raise NoLine("no text that a desk takes")
        if words[0] in SINGLE_WORDS:
            return self.told_of_book(words[0])
        if words[0] in ("judge", "why"):
            return self.told_of_case(words[0], case_written(words[1:]))
        return self.done(words)

    def done(self, words):
        """Does put, out or turn."""
        if words[0] == "put":
            return str(self.book.put(row_written(words[1:]))[0])
        if words[0] == "out":
            self.book.out(int(words[1]))
        else:
            self.book.turn(int(words[1]), row_written(words[2:]))
        return "ok"

    def told_of_book(self, word):
        """The answer to tree, rows, rules or steps."""
        tree = self.book.tree()
        if word == "tree":
            return shown_tree(tree)
        if word == "rows":
            return shown_rows(self.book.rows())
        if word == "rules":
            return "; ".join([shown_rule(self.form, rule) for rule in rules_of(self.form, tree)])
        rows = [row for number, row in self.book.rows()]
        return ", ".join([shown_step(price, part) for price, part in steps(self.form, tree, rows)])

    def told_of_case(self, word, case):
        """The answer to judge or why."""
        if not is_case(self.form, case):
            raise NoRow("no case of the form")
        tree = self.book.tree()
        answer = answer_of(self.form, tree, case)
        if word == "judge":
            return answer
        way = [shown_turn(question, side) for question, side in way_of(self.form, tree, case)]
        return ", ".join(way + [answer])


def is_line(words):
    """Whether these are the words of a text that a desk takes, whatever row or case they write."""
    if words[0] in SINGLE_WORDS:
        return len(words) == 1
    if words[0] == "out":
        return len(words) == 2 and is_number(words[1])
    if words[0] == "turn":
        return len(words) >= 2 and is_number(words[1])
    return words[0] in ("put", "judge", "why")


def is_number(word):
    """Whether the word writes a number: one to nine figures, no 0 ahead but in 0."""
    if not 1 <= len(word) <= MOST_FIGURES or not all([sign in FIGURES for sign in word]):
        return False
    return word == "0" or not word.startswith("0")


def row_written(words):
    """What the words write where a row should stand: of no words no row either."""
    return (case_written(words[:-1]),) + tuple(words[-1:])


def case_written(words):
    """What the words write where a case should stand."""
    return tuple([None if word == LACKING else word for word in words])


def shown_entry(entry):
    """A value as a word, "-" for what lacks."""
    return LACKING if entry is None else entry


def shown_rows(rows):
    """The numbered rows, each as its number, its values and its answer."""
    if len(rows) == 0:
        return "none"
    told = []
    for number, row in rows:
        told.append(" ".join([str(number)] + [shown_entry(entry) for entry in row[0]] + [row[1]]))
    return ", ".join(told)


def shown_turn(question, side):
    """A knot of a way, with the side that it goes."""
    return " ".join([question[1], question[0], question[2], side])


def shown_rule(form, rule):
    """The rule by the fields that don't let in all, then its answer."""
    narrow = [shown_let(field, let) for field, let in zip(form[0], rule[0]) if let != entries_of(field)]
    lets = " and ".join(narrow) if narrow else "all"
    return lets + " : " + rule[1]


def shown_let(field, let):
    """What is let in for the field."""
    return field[0] + " in " + "/".join([shown_entry(entry) for entry in let])


def shown_step(price, tree):
    """A step by its price and how many knots its tree has."""
    return str(price[0]) + "/" + str(price[1]) + " " + str(knots_in(tree))
