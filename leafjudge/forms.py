"""Names, and the forms that cases are cases of."""

LETTERS = "abcdefghijklmnopqrstuvwxyz"
LONGEST_NAME = 8
MOST_FIELDS = 5
FEWEST_VALUES = 2
MOST_VALUES = 5
FEWEST_ANSWERS = 2
MOST_ANSWERS = 4


def is_name(thing):
    """Whether the thing is a text of one to eight small letters."""
    if not isinstance(thing, str) or not 1 <= len(thing) <= LONGEST_NAME:
        return False
    return all([sign in LETTERS for sign in thing])


def is_form(thing):
    """Whether the thing is a tuple (fields, answers)."""
    if not is_tuple_of(thing, 2, 2):
        return False
    return are_fields(thing[0]) and are_names(thing[1], FEWEST_ANSWERS, MOST_ANSWERS)


def is_tuple_of(thing, fewest, most):
    """Whether the thing is a tuple of at least fewest and at most most things."""
    return isinstance(thing, tuple) and fewest <= len(thing) <= most


def is_whole(thing):
    """Whether the thing is a whole number: an int that is no truth."""
    return isinstance(thing, int) and not isinstance(thing, bool)


def are_names(thing, fewest, most):
    """Whether the thing is a tuple of so many names, no two alike."""
    if not is_tuple_of(thing, fewest, most):
        return False
    # All are texts before they go into a set: a list among them could not.
    return all([is_name(name) for name in thing]) and len(set(thing)) == len(thing)


def are_fields(thing):
    """Whether the thing is a tuple of one to five fields, no two names of fields alike."""
    if not is_tuple_of(thing, 1, MOST_FIELDS):
        return False
    if not all([is_field(field) for field in thing]):
        return False
    return are_names(tuple([field[0] for field in thing]), 1, MOST_FIELDS)


def is_field(thing):
    """Whether the thing is a tuple (name, values)."""
    if not is_tuple_of(thing, 2, 2):
        return False
    return is_name(thing[0]) and are_names(thing[1], FEWEST_VALUES, MOST_VALUES)
