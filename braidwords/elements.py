"""How many elements there are, in all and of each length."""

from braidwords.errors import InvalidNumber
from braidwords.growth import counts_of, full_word, number_of_all
from braidwords.heights import first_of, heights_of
from braidwords.kinds import is_integer_between
from braidwords.limits import MOST_LENGTH
from braidwords.mirrors import check_mirrors
from braidwords.rows import shares_of


def is_finite(mirrors):
    """Whether there are finitely many elements."""
    return longest(mirrors) is not None


def order(mirrors):
    """How many elements there are, None if there is no end of them."""
    check_mirrors(mirrors)
    return number_of_all(mirrors)


def longest(mirrors):
    """The first word of the element of the greatest length, None if there is no end of them."""
    check_mirrors(mirrors)
    shares = shares_of(mirrors)
    word = full_word(shares, mirrors.letters)
    return None if word is None else first_of(shares, heights_of(shares, word))


def of_length(mirrors, length):
    """How many elements have this length."""
    return counts_up_to(mirrors, length)[length]


def up_to(mirrors, length):
    """How many elements have this length or a lesser one."""
    return sum(counts_up_to(mirrors, length))


def counts_up_to(mirrors, length):
    """How many elements there are of each length up to this one."""
    check_mirrors(mirrors)
    if not is_integer_between(length, 0, MOST_LENGTH):
        raise InvalidNumber(length)
    return counts_of(shares_of(mirrors), length)
