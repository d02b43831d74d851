"""What several tests hand in: forms, and things of every kind that the document tells of."""

SHIRT = (
    (("size", ("small", "mid", "large")), ("dyed", ("no", "yes"))),
    ("keep", "give"),
)
SHIRT_CASES = [
    ("small", "no"), ("small", "yes"), ("small", None),
    ("mid", "no"), ("mid", "yes"), ("mid", None),
    ("large", "no"), ("large", "yes"), ("large", None),
    (None, "no"), (None, "yes"), (None, None),
]


def nested(kind, depth):
    """A list or tuple that lies depth within one another, a text innermost."""
    thing = "a"
    for step in range(depth):
        thing = kind([thing])
    return thing


def names(many, first="a"):
    """So many names, each another one: a, aa, aaa .. are beginnings of one another."""
    return tuple([first * (k + 1) for k in range(many)])


def form_of(value_counts, answers=("x", "y")):
    """A form with a field for each of the counts, with so many values."""
    fields = [("f" * (k + 1), names(many)) for k, many in enumerate(value_counts)]
    return (tuple(fields), answers)


def odd_things():
    """Things of every kind, made anew; none is a name, a form, a case or a row."""
    return [
        0, 1, -1, 2, 10 ** 20 - 1, -(10 ** 20 - 1), True, False, None,
        "", " ", "-", "None", "no text here", "~" * 20000, "a" * 20000,
        (), [], ((),), ([],), [()], [[]], ((), ()), [(), ()], (None,), [None], (None, None, None),
        (0, 1), [0, 1], (True, False), ("", ""), ["", ""], ("a",), ["a"], ["a", "b"],
        ("a", "b", "c", "d", "e", "f", "g"), (("a",), ("b",), ("c",)), ([0], [1]), ((0, "a"), None, [True]),
        ("ab", "ab"), ("ab", ["ab", "cd"]), (["ab"], "cd"), (None, "ab"), ("ab", None), (1, "ab"), ("ab", 1),
        nested(list, 40), nested(tuple, 40), ["a"] * 9999, ("a",) * 9999, (None,) * 9999,
    ]
