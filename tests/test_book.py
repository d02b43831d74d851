"""Books, and the places at which a tree became another one: points 27 and 28."""

import copy
import inspect
import random
import unittest

from leafjudge import book as book_module
from leafjudge.book import Book, changed
from leafjudge.errors import JudgeError, NoRow, NoSuch, TooMany
from leafjudge.growing import grown
from leafjudge.trees import part_at
from samples import (FORMS, LADDER, SHIRT, SHIRT_CASES, WORDY, bushy, chain, form_of, odd_things, places_of, some_rows,
                     some_tree, with_part)

SMALL = ("is", "size", "small")
LARGE = ("is", "size", "large")
KEEP = ("say", "keep")
GIVE = ("say", "give")
KNOT = ("ask", SMALL, "no", KEEP, GIVE)
NO_NUMBERS = [-1, -2, 1000, 10 ** 9, 10 ** 20 - 1, -(10 ** 20 - 1)]
WRONG_ROWS = [
    (("small", "no"),), (("small",), "keep"), (("small", "no", "no"), "keep"), (("small", "no"), "small"),
    (("no", "small"), "keep"), [("small", "no"), "keep"], (["small", "no"], "keep"), (("small", "no"), None),
    (("small", "no"), "keep", "keep"), (("small", ""), "keep"), (("small", "-"), "keep"), ((0, "no"), "keep"),
]


def changed_by_the_words(one, other):
    if one[0] != other[0] or (one[0] == "say" and one != other):
        return [()]
    if one[0] == "say":
        return []
    if one[1] != other[1] or one[2] != other[2]:
        return [()]
    return [(side,) + place for side, k in [("yes", 3), ("no", 4)] for place in changed_by_the_words(one[k], other[k])]


class Interface(unittest.TestCase):
    def test_arguments(self):
        told = {"__init__": ["self", "form", "deep", "least"], "put": ["self", "row"], "out": ["self", "number"],
                "turn": ["self", "number", "row"], "rows": ["self"], "tree": ["self"]}
        for name, arguments in told.items():
            self.assertEqual(list(inspect.signature(getattr(book_module.Book, name)).parameters), arguments)
        self.assertEqual(list(inspect.signature(book_module.changed).parameters), ["one", "other"])


class Changed(unittest.TestCase):
    def is_told(self, told, one, other):
        for pair in [(one, other), (other, one)]:
            found = changed(*pair)
            self.assertEqual(found, told)
            self.assertEqual(found, changed_by_the_words(*pair))
            self.assertIs(type(found), list)
            self.assertTrue(all(type(place) is tuple for place in found))

    def test_alike(self):
        for tree in [KEEP, GIVE, KNOT, bushy(LADDER, 500), chain(WORDY, 30)]:
            self.is_told([], tree, copy.deepcopy(tree))

    def test_a_leaf_and_a_knot(self):
        self.is_told([()], KEEP, KNOT)
        self.is_told([()], GIVE, ("ask", SMALL, "no", GIVE, GIVE))

    def test_unlike_leaves(self):
        self.is_told([()], KEEP, GIVE)

    def test_unlike_questions_or_strays(self):
        self.is_told([()], KNOT, ("ask", LARGE, "no", KEEP, GIVE))
        self.is_told([()], KNOT, ("ask", ("upto", "size", "small"), "no", KEEP, GIVE))
        self.is_told([()], KNOT, ("ask", SMALL, "yes", KEEP, GIVE))
        # Whatever stands below.
        self.is_told([()], KNOT, ("ask", SMALL, "yes", GIVE, KEEP))

    def test_deeper_down(self):
        self.is_told([("yes",)], KNOT, ("ask", SMALL, "no", GIVE, GIVE))
        self.is_told([("no",)], KNOT, ("ask", SMALL, "no", KEEP, KNOT))
        self.is_told([("yes",), ("no",)], KNOT, ("ask", SMALL, "no", GIVE, KEEP))
        one = ("ask", SMALL, "no", KNOT, ("ask", LARGE, "no", KNOT, KEEP))
        turned = ("ask", SMALL, "no", GIVE, KEEP)
        other = ("ask", SMALL, "no", ("ask", SMALL, "no", GIVE, GIVE), ("ask", LARGE, "no", turned, KNOT))
        self.is_told([("yes", "yes"), ("no", "yes", "yes"), ("no", "yes", "no"), ("no", "no")], one, other)

    def test_thirty_deep(self):
        one = chain(SHIRT, 30)
        other = with_part(one, ("no",) * 30, GIVE)
        self.is_told([("no",) * 30], one, other)

    def test_by_the_words(self):
        for form in FORMS:
            for seed in range(20):
                one = some_tree(form, 4, seed)
                self.is_told(changed_by_the_words(one, some_tree(form, 4, seed + 1)), one, some_tree(form, 4, seed + 1))
                chance = random.Random(seed)
                other = one
                for step in range(chance.randrange(4)):
                    place = chance.choice(places_of(other))
                    other = with_part(other, place, some_tree(form, 2, chance.random()))
                self.is_told(changed_by_the_words(one, other), one, other)
                # What was changed at the told places makes the one the other.
                made = one
                for place in changed(one, other):
                    made = with_part(made, place, part_at(other, place))
                self.assertEqual(made, other)

    def test_what_is_told_is_the_asker_s_own(self):
        told = changed(KNOT, ("ask", SMALL, "no", GIVE, KEEP))
        told.clear()
        self.assertEqual(changed(KNOT, ("ask", SMALL, "no", GIVE, KEEP)), [("yes",), ("no",)])
        told = changed(KNOT, KNOT)
        told.append(())
        self.assertEqual(changed(KNOT, KNOT), [])


class Deeds(unittest.TestCase):
    def test_an_empty_book(self):
        for form in FORMS:
            for deep, least in [(0, 1), (6, 1), (6, 60)]:
                book = Book(form, deep, least)
                self.assertEqual(book.rows(), [])
                self.assertEqual(book.tree(), ("say", form[1][0]))

    def test_ordinary(self):
        book = Book(SHIRT, 3, 1)
        self.assertEqual(book.put((("small", "no"), "keep")), (0, []))
        self.assertEqual(book.put((("large", "no"), "give")), (1, [()]))
        self.assertEqual(book.tree(), ("ask", SMALL, "yes", KEEP, GIVE))
        self.assertEqual(book.put((("large", None), "give")), (2, []))
        self.assertEqual(book.rows(), [(0, (("small", "no"), "keep")), (1, (("large", "no"), "give")),
                                       (2, (("large", None), "give"))])
        self.assertEqual(book.turn(0, (("mid", "no"), "give")), ((("small", "no"), "keep"), [()]))
        self.assertEqual(book.tree(), GIVE)
        self.assertEqual(book.out(1), ((("large", "no"), "give"), []))
        self.assertEqual(book.rows(), [(0, (("mid", "no"), "give")), (2, (("large", None), "give"))])
        self.assertEqual(book.put((("small", "no"), "keep"))[0], 3)

    def test_numbers_grow_whatever_goes(self):
        book = Book(SHIRT, 2, 1)
        for number in range(100):
            self.assertEqual(book.put((SHIRT_CASES[number % 12], "keep"))[0], number)
            book.out(number)
            self.assertEqual(book.rows(), [])
        self.assertEqual(book.put((SHIRT_CASES[0], "give"))[0], 100)
        self.assertEqual(book.put((SHIRT_CASES[0], "give"))[0], 101)
        book.out(101)
        self.assertEqual(book.put((SHIRT_CASES[0], "keep"))[0], 102)
        self.assertEqual([number for number, row in book.rows()], [100, 102])

    def test_turned_rows_keep_their_numbers_and_places(self):
        book = Book(SHIRT, 2, 1)
        for case in SHIRT_CASES[:5]:
            book.put((case, "keep"))
        for number in [3, 0, 4, 1]:
            self.assertEqual(book.turn(number, (SHIRT_CASES[number + 1], "give"))[0], (SHIRT_CASES[number], "keep"))
        self.assertEqual([number for number, row in book.rows()], [0, 1, 2, 3, 4])
        self.assertEqual(book.rows()[3], (3, (SHIRT_CASES[4], "give")))
        self.assertEqual(book.rows()[2], (2, (SHIRT_CASES[2], "keep")))
        self.assertEqual(book.put((SHIRT_CASES[0], "keep"))[0], 5)

    def test_a_row_turned_to_itself(self):
        book = self.filled(SHIRT, 8)
        tree, rows = book.tree(), book.rows()
        for number, row in rows:
            self.assertEqual(book.turn(number, row), (row, []))
        self.assertEqual((book.tree(), book.rows()), (tree, rows))

    def test_alike_rows_are_rows_of_their_own(self):
        book = Book(SHIRT, 2, 1)
        row = (("small", "no"), "keep")
        self.assertEqual([book.put(row)[0] for step in range(3)], [0, 1, 2])
        self.assertEqual(book.out(1), (row, []))
        self.assertEqual(book.rows(), [(0, row), (2, row)])

    def filled(self, form, many, deep=3, least=1, seed=1):
        book = Book(form, deep, least)
        for row in some_rows(form, many, seed):
            book.put(row)
        return book

    def stays(self, book, error, deed, *handed):
        """The deed is refused with just this error and changes nothing, not even the next number."""
        rows, tree = book.rows(), book.tree()
        with self.assertRaises(JudgeError) as taken:
            deed(*handed)
        self.assertIs(type(taken.exception), error)
        self.assertEqual((book.rows(), book.tree()), (rows, tree))

    def test_no_such_number(self):
        book = self.filled(SHIRT, 6)
        book.out(2)
        book.out(5)
        row = (("small", "no"), "keep")
        for number in NO_NUMBERS + [2, 5, 6, 7]:
            self.stays(book, NoSuch, book.out, number)
            self.stays(book, NoSuch, book.turn, number, row)
        self.assertEqual(book.put(row)[0], 6)
        empty = Book(SHIRT, 3, 1)
        for number in NO_NUMBERS + [0]:
            self.stays(empty, NoSuch, empty.out, number)
        self.assertEqual(empty.put(row)[0], 0)

    def test_no_row(self):
        book = self.filled(SHIRT, 6)
        for thing in WRONG_ROWS + odd_things():
            self.stays(book, NoRow, book.put, thing)
            self.stays(book, NoRow, book.turn, 3, thing)
        self.stays(book, NoRow, book.put, some_rows(WORDY, 1, 1)[0])
        self.assertEqual(book.put((("small", "no"), "keep"))[0], 6)

    def test_of_turn_no_such_goes_ahead_of_no_row(self):
        book = self.filled(SHIRT, 6)
        book.out(2)
        for number in NO_NUMBERS + [2, 6]:
            for thing in WRONG_ROWS + [None, 0, ""]:
                self.stays(book, NoSuch, book.turn, number, thing)

    def test_sixty_rows_and_one_more(self):
        book = self.filled(SHIRT, 60)
        row = (("small", "no"), "keep")
        self.assertEqual(len(book.rows()), 60)
        self.stays(book, TooMany, book.put, row)
        for thing in WRONG_ROWS:
            self.stays(book, NoRow, book.put, thing)
        # A full book can still be turned, and what was refused took no number.
        book.turn(59, row)
        book.out(17)
        self.assertEqual(book.put(row)[0], 60)
        self.stays(book, TooMany, book.put, row)
        book.out(60)
        self.assertEqual(book.put(row)[0], 61)

    def test_deep_and_least(self):
        for deep in range(7):
            for least in [1, 2, 5, 30, 60]:
                book = self.filled(LADDER, 12, deep, least)
                self.assertEqual(book.tree(), grown(LADDER, some_rows(LADDER, 12, 1), deep, least))

    def test_deeds_by_chance(self):
        for seed, form in enumerate(FORMS * 2 + [form_of([5, 5, 5, 5, 5], ("x", "y", "z", "w"))]):
            chance = random.Random(seed)
            deep, least = chance.choice([2, 4, 6]), chance.choice([1, 1, 2, 4])
            book = Book(form, deep, least)
            kept, following, tree = {}, 0, ("say", form[1][0])
            moved = 0
            for row in some_rows(form, 60, seed):
                deed = chance.choice(["put", "put", "put", "out", "turn"])
                if deed == "put" or not kept:
                    told = book.put(row)
                    self.assertEqual(told[0], following)
                    kept[following] = row
                    following += 1
                elif deed == "out":
                    number = chance.choice(list(kept))
                    told = book.out(number)
                    self.assertEqual(told[0], kept.pop(number))
                else:
                    number = chance.choice(list(kept))
                    told = book.turn(number, row)
                    self.assertEqual(told[0], kept[number])
                    kept[number] = row
                self.assertEqual((type(told), len(told), type(told[1])), (tuple, 2, list))
                self.assertEqual(book.rows(), sorted(kept.items(), key=lambda pair: pair[0]))
                anew = grown(form, [kept[number] for number in sorted(kept)], deep, least)
                self.assertEqual(book.tree(), anew)
                self.assertEqual(told[1], changed_by_the_words(tree, anew))
                moved += len([place for place in told[1] if place])
                tree = anew
            if form != SHIRT:
                self.assertGreater(moved, 0)

    def test_two_books_are_two(self):
        one, other = Book(SHIRT, 3, 1), Book(SHIRT, 3, 1)
        one.put((("small", "no"), "give"))
        self.assertEqual((other.rows(), other.tree()), ([], KEEP))
        self.assertEqual(other.put((("small", "no"), "keep"))[0], 0)
        self.assertEqual(one.rows(), [(0, (("small", "no"), "give"))])

    def test_told_lists_that_are_changed_change_nothing(self):
        book = self.filled(SHIRT, 9)
        rows, tree = list(book.rows()), book.tree()
        told = book.rows()
        told.reverse()
        told.pop()
        told[0] = None
        self.assertEqual((book.rows(), book.tree()), (rows, tree))
        places = book.put((("small", "no"), "keep"))[1]
        places.append(("yes",))
        self.assertEqual(book.out(9)[1].count(("yes",)), 0)
        self.assertEqual((book.rows(), book.tree()), (rows, tree))

    def test_told_lists_stay_as_they_are(self):
        book = self.filled(SHIRT, 9)
        told, kept = book.rows(), list(book.rows())
        gone = book.out(0)
        kept_gone = copy.deepcopy(gone)
        book.turn(1, (("small", None), "give"))
        book.put((("mid", None), "keep"))
        self.assertEqual((told, gone), (kept, kept_gone))

    def test_what_was_handed_in_stays(self):
        form, row = copy.deepcopy((SHIRT, (("small", None), "give")))
        book = Book(form, 3, 1)
        book.put(row)
        book.turn(0, row)
        book.rows().clear()
        book.out(0)
        self.assertEqual((form, row), (SHIRT, (("small", None), "give")))
        for thing in [["small", "no"], [("small", "no"), "keep"], (["small", "no"], "keep")]:
            kept = copy.deepcopy(thing)
            self.stays(book, NoRow, book.put, thing)
            self.assertEqual(thing, kept)


if __name__ == "__main__":
    unittest.main()
