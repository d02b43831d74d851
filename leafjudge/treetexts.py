"""Trees written as texts, and read from them."""

from leafjudge.errors import NoText
from leafjudge.questions import KINDS, SIDES, values_asked
from leafjudge.trees import MOST_DEEP, MOST_KNOTS, is_leaf


def shown_tree(tree):
    """The tree as words parted by single blanks."""
    if is_leaf(tree):
        return " ".join(tree)
    question = tree[1]
    words = ["ask", question[1], question[0], question[2], tree[2], shown_tree(tree[3]), shown_tree(tree[4])]
    return " ".join(words)


def read_tree(form, text):
    """The tree of the form that the text writes."""
    words = text.split(" ")
    found = read_part(form, words, 0, 0, 0)
    if found[1] < len(words):
        raise NoText(found[1])
    return found[0]


def read_part(form, words, start, within, knots):
    """The part that begins at the word start: a tuple (part, number of the word behind it, knots read by then).

    It lies within so many knots; so many are read ahead of it.
    """
    if word_at(words, start, ("say", "ask")) == "say":
        return (("say", word_at(words, start + 1, form[1])), start + 2, knots)
    if within == MOST_DEEP or knots == MOST_KNOTS:
        raise NoText(start)
    question = read_question(form, words, start + 1)
    stray = word_at(words, start + 4, SIDES)
    yes = read_part(form, words, start + 5, within + 1, knots + 1)
    no = read_part(form, words, yes[1], within + 1, yes[2])
    return (("ask", question, stray, yes[0], no[0]), no[1], no[2])


def read_question(form, words, start):
    """The question that is written as FIELD KIND VALUE from the word start on."""
    names = [field[0] for field in form[0]]
    name = word_at(words, start, names)
    kind = word_at(words, start + 1, KINDS)
    value = word_at(words, start + 2, values_asked(kind, form[0][names.index(name)]))
    return (kind, name, value)


def word_at(words, number, right):
    """The word of this number, refused where it lacks or is none of the right ones."""
    # Words are read one by one, so the first one that lacks has for its number how many there are.
    if number >= len(words) or words[number] not in right:
        raise NoText(number)
    return words[number]
