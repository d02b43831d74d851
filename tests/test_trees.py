"""Trees, ways, answers, places: points 11 and 12."""

import copy
import inspect
import unittest

from leafjudge import trees
from leafjudge.cases import all_cases
from leafjudge.errors import JudgeError, NoPlace
from leafjudge.questions import side_of
from leafjudge.trees import answer_of, coming, depth_of, is_tree, knots_in, part_at, way_of
from samples import (FORMS, LADDER, SHIRT, WORDY, bushy, chain, every_asking, odd_things, places_of, some_rows,
                     some_tree, with_part)

KEEP = ("say", "keep")
GIVE = ("say", "give")
SMALL = ("is", "size", "small")
MID = ("upto", "size", "mid")
DYED = ("is", "dyed", "yes")
SHIRT_TREE = ("ask", SMALL, "no", ("ask", DYED, "yes", GIVE, KEEP), ("ask", MID, "no", KEEP, GIVE))
SHIRT_ROWS = [
    (("large", "no"), "keep"), (("small", "yes"), "give"), ((None, "yes"), "keep"), (("small", None), "keep"),
    (("mid", "yes"), "give"), (("small", "no"), "keep"), (("small", "yes"), "keep"),
]
WRONG_PARTS = [
    None, True, False, 0, 1, "", "say", "keep", "say keep", (), [], ("say",), ("say", None), ("say", ""),
    ("say", "small"), ("say", "size"), ("say", "yes"), ("say", "keep", "keep"), ("say", "keep", None), ("keep", "say"),
    ["say", "keep"], ("say", ["keep"]), ("say", ("keep",)), ("say", True), ("says", "keep"), ("ask", "keep"),
    (("say",), "keep"), ("say", "keep", "yes", KEEP, KEEP), (KEEP,), (KEEP, GIVE),
    ("ask",), ("ask", SMALL), ("ask", SMALL, "no"), ("ask", SMALL, "no", KEEP), ("ask", SMALL, KEEP, GIVE),
    ("ask", SMALL, "no", KEEP, GIVE, KEEP), ("ask", SMALL, "no", KEEP, GIVE, None), ["ask", SMALL, "no", KEEP, GIVE],
    ("say", SMALL, "no", KEEP, GIVE), (SMALL, "ask", "no", KEEP, GIVE), ("ask", "no", SMALL, KEEP, GIVE),
    ("ask", SMALL, "maybe", KEEP, GIVE), ("ask", SMALL, "", KEEP, GIVE), ("ask", SMALL, None, KEEP, GIVE),
    ("ask", SMALL, True, KEEP, GIVE), ("ask", SMALL, ["no"], KEEP, GIVE), ("ask", SMALL, ("no",), KEEP, GIVE),
    ("ask", list(SMALL), "no", KEEP, GIVE), ("ask", ("upto", "size", "large"), "no", KEEP, GIVE),
    ("ask", ("upto", "dyed", "yes"), "no", KEEP, GIVE), ("ask", ("is", "age", "small"), "no", KEEP, GIVE),
    ("ask", ("is", "size", "yes"), "no", KEEP, GIVE), ("ask", ("is", "size"), "no", KEEP, GIVE),
    ("ask", SMALL + ("no",), "no", KEEP, GIVE), ("ask", None, "no", KEEP, GIVE), ("ask", KEEP, "no", KEEP, GIVE),
    ("ask", ("are", "size", "small"), "no", KEEP, GIVE), ("ask", (), "no", KEEP, GIVE),
]


def leaf_by_the_words(form, tree, case):
    if tree[0] == "say":
        return tree
    return leaf_by_the_words(form, tree[3 if side_of(form, tree[1], tree[2], case) == "yes" else 4], case)


def some_trees(form):
    return [some_tree(form, deep, seed) for seed, deep in enumerate([0, 1, 2, 3, 4, 6, 8])] + [
        chain(form, 5), chain(form, 30, ("yes", "no", "no")), bushy(form, 40)]


class Interface(unittest.TestCase):
    def test_arguments(self):
        told = {"is_tree": ["form", "thing"], "depth_of": ["tree"], "knots_in": ["tree"],
                "way_of": ["form", "tree", "case"], "answer_of": ["form", "tree", "case"],
                "part_at": ["tree", "place"], "coming": ["form", "tree", "rows", "place"]}
        for name, arguments in told.items():
            self.assertEqual(list(inspect.signature(getattr(trees, name)).parameters), arguments)


class IsTree(unittest.TestCase):
    def is_told(self, told, form, things):
        for thing in things:
            self.assertIs(is_tree(form, thing), told, repr(thing)[:200])

    def test_leaves(self):
        self.is_told(True, SHIRT, [KEEP, GIVE])
        self.is_told(True, WORDY, [("say", "say"), ("say", "ask"), ("say", "yes"), ("say", "no")])
        self.is_told(False, SHIRT, [("say", "yes"), ("say", "say")])

    def test_knots(self):
        self.is_told(True, SHIRT, [SHIRT_TREE, ("ask", SMALL, "yes", KEEP, KEEP), ("ask", MID, "no", GIVE, SHIRT_TREE)])
        for form in FORMS:
            leaf = ("say", form[1][0])
            self.is_told(True, form, [("ask", question, stray, leaf, leaf) for question, stray in every_asking(form)])

    def test_a_question_may_be_asked_again_below(self):
        self.is_told(True, SHIRT, [("ask", SMALL, "yes", ("ask", SMALL, "yes", KEEP, GIVE), GIVE)])

    def test_trees_by_chance(self):
        for form in FORMS:
            self.is_told(True, form, some_trees(form))

    def test_another_form_s_tree(self):
        self.is_told(False, WORDY, [KEEP, SHIRT_TREE])
        self.is_told(False, SHIRT, [bushy(LADDER, 3), bushy(WORDY, 3)])

    def test_thirty_and_thirty_one_deep(self):
        for form in FORMS:
            for sides in [("yes",), ("no",), ("yes", "no"), ("no", "no", "yes")]:
                self.is_told(True, form, [chain(form, deep, sides) for deep in [1, 2, 29, 30]])
                self.is_told(False, form, [chain(form, deep, sides) for deep in [31, 32, 36]])

    def test_thirty_one_deep_on_one_place_alone(self):
        for side in ["yes", "no"]:
            tree = with_part(SHIRT_TREE, ("yes", "no"), chain(SHIRT, 28, (side,)))
            self.is_told(True, SHIRT, [tree])
            tree = with_part(SHIRT_TREE, ("yes", "no"), chain(SHIRT, 29, (side,)))
            self.is_told(False, SHIRT, [tree])

    def test_five_hundred_and_five_hundred_and_one_knots(self):
        for form in FORMS:
            self.is_told(True, form, [bushy(form, knots) for knots in [1, 2, 100, 499, 500]])
            self.is_told(False, form, [bushy(form, knots) for knots in [501, 502, 511, 600]])

    def test_knots_on_one_side_count_as_those_of_the_other(self):
        for one, other in [(499, 0), (0, 499), (250, 249), (470, 29)]:
            tree = ("ask", SMALL, "no", bushy(SHIRT, one), bushy(SHIRT, other))
            self.is_told(True, SHIRT, [tree])
        for one, other in [(500, 0), (0, 500), (250, 250), (471, 29)]:
            tree = ("ask", SMALL, "no", bushy(SHIRT, one), bushy(SHIRT, other))
            self.is_told(False, SHIRT, [tree])

    def test_deep_and_with_many_knots(self):
        tree = with_part(chain(SHIRT, 21, ("no",)), ("no",) * 21, bushy(SHIRT, 479))
        self.assertEqual((depth_of(tree), knots_in(tree)), (30, 500))
        self.is_told(True, SHIRT, [tree])

    def test_one_part_at_many_places_counts_each_time(self):
        tree = KEEP
        for step in range(30):
            tree = ("ask", SMALL, "no", tree, tree)
            # Not shown where it fails: written out, it would have no end.
            self.assertIs(is_tree(SHIRT, tree), step < 8, step)

    def test_a_part_that_is_none_at_any_place(self):
        for wrong in WRONG_PARTS:
            self.is_told(False, SHIRT, [wrong])
            for place in places_of(SHIRT_TREE):
                self.is_told(False, SHIRT, [with_part(SHIRT_TREE, place, wrong)])
        place = ("no",) * 30
        self.is_told(True, SHIRT, [with_part(chain(SHIRT, 30), place, GIVE)])
        self.is_told(False, SHIRT, [with_part(chain(SHIRT, 30), place, wrong) for wrong in WRONG_PARTS])

    def test_any_thing(self):
        self.is_told(False, SHIRT, odd_things())
        for thing in odd_things():
            self.is_told(False, SHIRT, [
                ("say", thing), (thing, "keep"), (thing, thing), ("ask", thing, "no", KEEP, GIVE),
                ("ask", SMALL, thing, KEEP, GIVE), ("ask", SMALL, "no", thing, GIVE), ("ask", SMALL, "no", KEEP, thing),
                (thing, SMALL, "no", KEEP, GIVE), ("ask", SMALL, "no", KEEP, GIVE, thing), ["say", thing],
            ])

    def test_nothing_handed_in_is_changed(self):
        form = copy.deepcopy(SHIRT)
        for thing in odd_things() + [["say", "keep"], ["ask", list(SMALL), "no", [KEEP], [GIVE]]]:
            handed = ("ask", SMALL, "no", thing, thing)
            kept = copy.deepcopy(handed)
            is_tree(form, thing)
            is_tree(form, handed)
            self.assertEqual(repr(handed), repr(kept))
        self.assertEqual(form, SHIRT)


class DepthAndKnots(unittest.TestCase):
    def are_told(self, tree, deep, knots):
        self.assertEqual((depth_of(tree), knots_in(tree)), (deep, knots))
        self.assertEqual((type(depth_of(tree)), type(knots_in(tree))), (int, int))

    def test_leaves(self):
        self.are_told(KEEP, 0, 0)
        self.are_told(("say", "say"), 0, 0)

    def test_small_ones(self):
        self.are_told(("ask", SMALL, "no", KEEP, GIVE), 1, 1)
        self.are_told(SHIRT_TREE, 2, 3)
        self.are_told(("ask", SMALL, "no", SHIRT_TREE, KEEP), 3, 4)
        self.are_told(("ask", SMALL, "no", KEEP, SHIRT_TREE), 3, 4)

    def test_chains(self):
        for deep in [1, 2, 17, 30]:
            for sides in [("yes",), ("no",), ("yes", "no")]:
                self.are_told(chain(WORDY, deep, sides), deep, deep)

    def test_bushy_ones(self):
        for knots in [1, 2, 3, 4, 7, 8, 100, 255, 256, 499, 500]:
            self.are_told(bushy(LADDER, knots), knots.bit_length(), knots)

    def test_words_that_are_names_do_not_count(self):
        self.are_told(("ask", ("is", "say", "ask"), "no", ("say", "ask"), ("say", "say")), 1, 1)


class Ways(unittest.TestCase):
    def test_ordinary(self):
        self.assertEqual(way_of(SHIRT, SHIRT_TREE, ("small", "yes")), [(SMALL, "yes"), (DYED, "yes")])
        self.assertEqual(way_of(SHIRT, SHIRT_TREE, ("small", "no")), [(SMALL, "yes"), (DYED, "no")])
        self.assertEqual(way_of(SHIRT, SHIRT_TREE, ("mid", "no")), [(SMALL, "no"), (MID, "yes")])
        self.assertEqual(way_of(SHIRT, SHIRT_TREE, ("large", None)), [(SMALL, "no"), (MID, "no")])

    def test_what_lacks_goes_by_the_stray(self):
        self.assertEqual(way_of(SHIRT, SHIRT_TREE, ("small", None)), [(SMALL, "yes"), (DYED, "yes")])
        self.assertEqual(way_of(SHIRT, SHIRT_TREE, (None, "yes")), [(SMALL, "no"), (MID, "no")])

    def test_a_leaf(self):
        self.assertEqual(way_of(SHIRT, KEEP, ("small", "yes")), [])
        self.assertEqual(answer_of(SHIRT, KEEP, (None, None)), "keep")

    def test_answers(self):
        told = [answer_of(SHIRT, SHIRT_TREE, case) for case, answer in SHIRT_ROWS]
        self.assertEqual(told, ["give", "give", "give", "give", "keep", "keep", "give"])

    def test_each_case_by_the_words(self):
        for form in FORMS:
            for tree in some_trees(form):
                for case in all_cases(form)[::7]:
                    way = way_of(form, tree, case)
                    part = tree
                    for question, side in way:
                        self.assertEqual((part[0], part[1]), ("ask", question))
                        self.assertEqual(side, side_of(form, question, part[2], case))
                        part = part[3 if side == "yes" else 4]
                    self.assertEqual(part, leaf_by_the_words(form, tree, case))
                    self.assertEqual(part, ("say", answer_of(form, tree, case)))
                    self.assertIs(type(way), list)
                    self.assertTrue(all(type(step) is tuple for step in way))

    def test_a_told_way_that_is_changed_changes_no_later_answer(self):
        for tree in [KEEP, SHIRT_TREE]:
            kept = list(way_of(SHIRT, tree, ("mid", "no")))
            told = way_of(SHIRT, tree, ("mid", "no"))
            told.append("more")
            told[0] = None
            self.assertEqual(way_of(SHIRT, tree, ("mid", "no")), kept)
        self.assertEqual(answer_of(SHIRT, SHIRT_TREE, ("mid", "no")), "keep")


class Places(unittest.TestCase):
    def is_refused(self, form, tree, rows, place):
        with self.assertRaises(NoPlace) as taken:
            part_at(tree, place)
        self.assertIsInstance(taken.exception, JudgeError)
        for handed in [rows, []]:
            with self.assertRaises(NoPlace) as taken:
                coming(form, tree, handed, place)
            self.assertIsInstance(taken.exception, JudgeError)

    def test_parts(self):
        self.assertEqual(part_at(SHIRT_TREE, ()), SHIRT_TREE)
        self.assertEqual(part_at(SHIRT_TREE, ("yes",)), ("ask", DYED, "yes", GIVE, KEEP))
        self.assertEqual(part_at(SHIRT_TREE, ("no",)), ("ask", MID, "no", KEEP, GIVE))
        self.assertEqual(part_at(SHIRT_TREE, ("yes", "yes")), GIVE)
        self.assertEqual(part_at(SHIRT_TREE, ("no", "yes")), KEEP)
        self.assertEqual(part_at(KEEP, ()), KEEP)

    def test_rows_that_come(self):
        self.assertEqual(coming(SHIRT, SHIRT_TREE, SHIRT_ROWS, ()), [0, 1, 2, 3, 4, 5, 6])
        self.assertEqual(coming(SHIRT, SHIRT_TREE, SHIRT_ROWS, ("yes",)), [1, 3, 5, 6])
        self.assertEqual(coming(SHIRT, SHIRT_TREE, SHIRT_ROWS, ("no",)), [0, 2, 4])
        self.assertEqual(coming(SHIRT, SHIRT_TREE, SHIRT_ROWS, ("yes", "yes")), [1, 3, 6])
        self.assertEqual(coming(SHIRT, SHIRT_TREE, SHIRT_ROWS, ("yes", "no")), [5])
        self.assertEqual(coming(SHIRT, SHIRT_TREE, SHIRT_ROWS, ("no", "yes")), [4])
        self.assertEqual(coming(SHIRT, SHIRT_TREE, SHIRT_ROWS, ("no", "no")), [0, 2])

    def test_no_rows(self):
        for place in places_of(SHIRT_TREE):
            self.assertEqual(coming(SHIRT, SHIRT_TREE, [], place), [])

    def test_a_place_to_which_no_row_comes(self):
        tree = ("ask", SMALL, "no", ("ask", SMALL, "no", KEEP, GIVE), KEEP)
        self.assertEqual(coming(SHIRT, tree, SHIRT_ROWS, ("yes", "no")), [])

    def test_beyond_a_leaf(self):
        for side in ["yes", "no"]:
            self.is_refused(SHIRT, KEEP, SHIRT_ROWS, (side,))
            self.is_refused(SHIRT, KEEP, SHIRT_ROWS, (side, "no"))
            self.is_refused(SHIRT, KEEP, SHIRT_ROWS, (side,) * 1000)
        for place in [("yes", "yes"), ("yes", "no"), ("no", "yes"), ("no", "no")]:
            for more in [("yes",), ("no",), ("yes", "no", "yes"), ("no",) * 9000]:
                self.is_refused(SHIRT, SHIRT_TREE, SHIRT_ROWS, place + more)

    def test_words_that_are_no_sides(self):
        for place in [("maybe",), ("",), ("Yes",), ("yes", "say"), ("no", "maybe")]:
            self.is_refused(SHIRT, SHIRT_TREE, SHIRT_ROWS, place)

    def test_one_side_is_a_leaf_and_the_other_none(self):
        tree = ("ask", SMALL, "no", KEEP, ("ask", MID, "no", KEEP, GIVE))
        self.is_refused(SHIRT, tree, SHIRT_ROWS, ("yes", "yes"))
        self.is_refused(SHIRT, tree, SHIRT_ROWS, ("yes", "no"))
        self.assertEqual(part_at(tree, ("no", "yes")), KEEP)
        self.assertEqual(part_at(tree, ("no", "no")), GIVE)

    def test_each_place_by_the_words(self):
        for seed, form in enumerate(FORMS):
            rows = some_rows(form, 40, seed)
            for tree in some_trees(form):
                for place in places_of(tree):
                    part = part_at(tree, place)
                    self.assertEqual(tree, with_part(tree, place, part))
                    sides = [tuple(side for question, side in way_of(form, tree, case)) for case, answer in rows]
                    told = coming(form, tree, rows, place)
                    self.assertEqual(told, [k for k in range(40) if sides[k][:len(place)] == place])
                    self.assertIs(type(told), list)
                    if part[0] == "say":
                        self.is_refused(form, tree, rows, place + ("yes",))
                        self.is_refused(form, tree, rows, place + ("no",))

    def test_told_lists_that_are_changed_change_no_later_answer(self):
        for place in places_of(SHIRT_TREE):
            kept = list(coming(SHIRT, SHIRT_TREE, SHIRT_ROWS, place))
            told = coming(SHIRT, SHIRT_TREE, SHIRT_ROWS, place)
            told.append(99)
            told[0] = None
            self.assertEqual(coming(SHIRT, SHIRT_TREE, SHIRT_ROWS, place), kept)

    def test_what_was_handed_in_stays(self):
        form, tree, rows = copy.deepcopy((SHIRT, SHIRT_TREE, SHIRT_ROWS))
        coming(form, tree, rows, ("no",)).clear()
        coming(form, tree, rows, ()).clear()
        way_of(form, tree, rows[0][0]).clear()
        self.is_refused(form, tree, rows, ("no",) * 3)
        self.assertEqual((form, tree, rows), (SHIRT, SHIRT_TREE, SHIRT_ROWS))


if __name__ == "__main__":
    unittest.main()
