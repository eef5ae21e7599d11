"""Of what kind a value is, whatever it is."""

from braidwords.limits import MOST_WORD

# As many letters as mirrors may have.
ALPHABET = "abcdef"

# The place of each of them: a table, since what a property runs calls no method that has the name of an attribute, and
# the errors have one called `index`.
PLACES = {"a": 0, "b": 1, "c": 2, "d": 3, "e": 4, "f": 5}

# The letters of names, and how many of them a name has at most.
NAME_LETTERS = "abcdefghijklmnopqrstuvwxyz"
MOST_NAME = 8


def is_integer(value):
    """Whether it is an integer; True and False are none."""
    return isinstance(value, int) and not isinstance(value, bool)


def is_integer_between(value, low, high):
    """Whether it is an integer from `low` to `high`."""
    return is_integer(value) and low <= value <= high


def is_letter(letters, value):
    """Whether it is one of these letters."""
    return isinstance(value, str) and len(value) == 1 and value in letters


def is_lot(letters, value):
    """Whether it is a string of unlike ones of these letters, ascending."""
    return isinstance(value, str) and value == "".join([x for x in letters if x in value])


def is_word(letters, value):
    """Whether it is a word of these letters."""
    return isinstance(value, str) and len(value) <= MOST_WORD and all([x in letters for x in value])


def is_of_letters(value):
    """Whether it is a string of one or more letters from a to z."""
    return isinstance(value, str) and value != "" and all([x in NAME_LETTERS for x in value])


def is_name(value):
    """Whether it is a name."""
    return is_of_letters(value) and len(value) <= MOST_NAME
