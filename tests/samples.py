"""What several tests hand in: forms, rows, trees, rules, and things of every kind that the document tells of."""

import itertools
import math
import random

SHIRT = (
    (("size", ("small", "mid", "large")), ("dyed", ("no", "yes"))),
    ("keep", "give"),
)
SHIRT_CASES = [
    ("small", "no"), ("small", "yes"), ("small", None),
    ("mid", "no"), ("mid", "yes"), ("mid", None),
    ("large", "no"), ("large", "yes"), ("large", None),
    (None, "no"), (None, "yes"), (None, None),
]
# Fields of two, three, four and five values, whose values and names are like one another.
LADDER = (
    (("p", ("p", "q")), ("q", ("r", "q", "p")), ("r", ("p", "q", "r", "s")), ("s", ("t", "s", "r", "q", "p"))),
    ("p", "q", "r"),
)
# Names that are words of the texts.
WORDY = (
    (("is", ("yes", "no", "say")), ("upto", ("is", "upto", "ask", "no")), ("say", ("ask", "say"))),
    ("no", "say", "yes", "ask"),
)
FORMS = [SHIRT, LADDER, WORDY]


def nested(kind, depth):
    """A list or tuple that lies depth within one another, a text innermost."""
    thing = "a"
    for step in range(depth):
        thing = kind([thing])
    return thing


def names(many, first="a"):
    """So many names, each another one: a, aa, aaa .. are beginnings of one another."""
    return tuple([first * (k + 1) for k in range(many)])


def form_of(value_counts, answers=("x", "y")):
    """A form with a field for each of the counts, with so many values."""
    fields = [("f" * (k + 1), names(many)) for k, many in enumerate(value_counts)]
    return (tuple(fields), answers)


def every_question(form):
    """All questions of the form by point 8, those that are not to choose from too."""
    told = []
    for name, values in form[0]:
        told.extend(("is", name, value) for value in values)
        told.extend(("upto", name, value) for value in values[:-1])
    return told


def every_asking(form):
    return list(itertools.product(every_question(form), ("yes", "no")))


def some_rows(form, many, seed, lacking=0.2, like=None):
    """So many rows by chance, the same ones each time; with like, no two of that many cases have two answers."""
    chance = random.Random(seed)

    def some_case():
        return tuple([None if chance.random() < lacking else chance.choice(values) for name, values in form[0]])

    if like is None:
        return [(some_case(), chance.choice(form[1])) for step in range(many)]
    pairs = [(some_case(), chance.choice(form[1])) for step in range(like)]
    return [chance.choice(pairs) for step in range(many)]


def some_tree(form, deep, seed, leafy=0.2):
    """A tree by chance, at most so deep, the same one each time."""
    chance = random.Random(seed)

    def grow(left):
        if left == 0 or chance.random() < leafy:
            return ("say", chance.choice(form[1]))
        question, stray = chance.choice(every_asking(form))
        return ("ask", question, stray, grow(left - 1), grow(left - 1))

    return grow(deep)


def chain(form, deep, sides=("no",)):
    """A tree of so many knots, each on a side of the one ahead: the sides taken in turn from the top."""
    askings = every_asking(form)
    tree = ("say", form[1][0])
    for k in reversed(range(deep)):
        leaf = ("say", form[1][k % len(form[1])])
        question, stray = askings[k % len(askings)]
        both = (tree, leaf) if sides[k % len(sides)] == "yes" else (leaf, tree)
        tree = ("ask", question, stray, *both)
    return tree


def bushy(form, knots):
    """A tree of so many knots, as even as may be."""
    if knots == 0:
        return ("say", form[1][-1])
    question, stray = every_asking(form)[knots % len(every_asking(form))]
    half = (knots - 1) // 2
    return ("ask", question, stray, bushy(form, half), bushy(form, knots - 1 - half))


def cut_tree(form, many, numbers=None):
    """A tree with so many leaves, to each of which some case comes; it asks of the fields of these numbers alone."""
    asked = range(len(form[0])) if numbers is None else numbers
    answers = itertools.cycle(form[1])

    def many_in(lets):
        return math.prod(len(let) for let in lets.values())

    def cut(lets, left):
        if left == 1:
            return ("say", next(answers))
        number = next(number for number in asked if len(lets[number]) > 1)
        name, value = form[0][number][0], lets[number][0]
        yes, no = dict(lets), dict(lets)
        yes[number], no[number] = lets[number][:1], lets[number][1:]
        share = min(many_in(yes), left - 1)
        return ("ask", ("is", name, value), "no", cut(yes, share), cut(no, left - share))

    return cut({number: form[0][number][1] + (None,) for number in asked}, many)


def some_rules(form, many, seed, dense=0.6):
    """So many rules by chance, the same ones each time; the last one lets in all."""
    chance = random.Random(seed)
    whole = tuple([values + (None,) for name, values in form[0]])

    def some_let(entries):
        return tuple([entry for entry in entries if chance.random() < dense]) or (chance.choice(entries),)

    rules = [(tuple([some_let(entries) for entries in whole]), chance.choice(form[1])) for step in range(many - 1)]
    return rules + [(whole, chance.choice(form[1]))]


def single(case):
    """The lets that let in this case alone."""
    return tuple([(entry,) for entry in case])


def cases_by_the_words(form):
    return list(itertools.product(*[values + (None,) for name, values in form[0]]))


def answer_by_the_words(rules, case):
    """The answer of the first rule that fits, None where none does."""
    for lets, answer in rules:
        if all(entry in let for entry, let in zip(case, lets, strict=True)):
            return answer
    return None


def places_of(tree):
    """All places of the tree, by its shape."""
    if tree[0] == "say":
        return [()]
    below = [(side,) + place for side, part in zip(("yes", "no"), tree[3:]) for place in places_of(part)]
    return [()] + below


def with_part(tree, place, part):
    """The tree with another part at a place."""
    if place == ():
        return part
    k = 3 if place[0] == "yes" else 4
    return tree[:k] + (with_part(tree[k], place[1:], part),) + tree[k + 1:]


def odd_things():
    """Things of every kind, made anew; none is a name, a form, a case, a row, a question or a tree."""
    return [
        0, 1, -1, 2, 10 ** 20 - 1, -(10 ** 20 - 1), True, False, None,
        "", " ", "-", "None", "no text here", "~" * 20000, "a" * 20000,
        (), [], ((),), ([],), [()], [[]], ((), ()), [(), ()], (None,), [None], (None, None, None),
        (0, 1), [0, 1], (True, False), ("", ""), ["", ""], ("a",), ["a"], ["a", "b"],
        ("a", "b", "c", "d", "e", "f", "g"), (("a",), ("b",), ("c",)), ([0], [1]), ((0, "a"), None, [True]),
        ("ab", "ab"), ("ab", ["ab", "cd"]), (["ab"], "cd"), (None, "ab"), ("ab", None), (1, "ab"), ("ab", 1),
        nested(list, 40), nested(tuple, 40), ["a"] * 9999, ("a",) * 9999, (None,) * 9999,
    ]
