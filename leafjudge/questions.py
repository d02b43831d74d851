"""Questions of a form, and the sides to which they send cases and rows."""

from leafjudge.forms import is_tuple_of

KINDS = ("is", "upto")
SIDES = ("yes", "no")


def is_question(form, thing):
    """Whether the thing is a tuple (kind, field, value) of the form."""
    if not is_tuple_of(thing, 3, 3) or thing[0] not in KINDS:
        return False
    return any([thing[1] == field[0] and thing[2] in values_asked(thing[0], field) for field in form[0]])


def values_asked(kind, field):
    """The values of the field that a question of this kind may name."""
    # Upto the last value would hold of each case that has the field.
    return field[1][:-1] if kind == "upto" else field[1]


def questions_of(form):
    """The list of the questions to choose from."""
    questions = []
    for field in form[0]:
        questions.extend(questions_on(field))
    return questions


def questions_on(field):
    """The questions to choose from that ask of this field."""
    name = field[0]
    values = field[1]
    # Of two values either one parts as the other does, the sides changed.
    told_by_is = values[:1] if len(values) == 2 else values
    # Upto the first value parts as "is" with it does, upto the last but one as "is" with the last.
    told_by_upto = values[1:-2]
    return [("is", name, value) for value in told_by_is] + [("upto", name, value) for value in told_by_upto]


def choices_of(form):
    """Each question to choose from with either stray, as a list of tuples (question, stray)."""
    choices = []
    for question in questions_of(form):
        choices.extend([(question, stray) for stray in SIDES])
    return choices


def side_of(form, question, stray, case):
    """The side to which the question sends the case: "yes" or "no"."""
    number = field_asked(form, question)
    return "yes" if case[number] in entries_to_yes(question, stray, form[0][number]) else "no"


def field_asked(form, question):
    """The number of the field of which the question asks."""
    return [field[0] for field in form[0]].index(question[1])


def entries_to_yes(question, stray, field):
    """What a case has for the question's field where it goes to yes: some of the values, perhaps None."""
    return values_held(question, field) + ((None,) if stray == "yes" else ())


def values_held(question, field):
    """The values of its field of which the question holds."""
    if question[0] == "is":
        return (question[2],)
    return field[1][:field[1].index(question[2]) + 1]


def parted(form, question, stray, rows):
    """The numbers of the rows that go to yes, and of those that go to no: a tuple of two lists."""
    sides = [side_of(form, question, stray, row[0]) for row in rows]
    return (numbers_on("yes", sides), numbers_on("no", sides))


def numbers_on(side, sides):
    """The numbers, rising, at which this side stands."""
    return [number for number, found in enumerate(sides) if found == side]


def is_proper(sides, fewest):
    """Whether rows that are parted so have at least so many on each side."""
    return len(sides[0]) >= fewest and len(sides[1]) >= fewest
