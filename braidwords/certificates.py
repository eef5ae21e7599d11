"""Claims for the checker, each with a paper that shows it."""

from braidwords.growth import number_of_all
from braidwords.lengths import check_shortest
from braidwords.mirrors import check_mirrors
from braidwords.moves import path
from braidwords.sending import unlike_letter
from braidwords.under import part_word


def certify_alike(mirrors, one, other):
    """That two words are alike, or that they are not."""
    letter = unlike_letter(mirrors, one, other)
    if letter is None:
        return ("alike", mirrors.text, one, other), path(mirrors, one, other)
    return ("unlike", mirrors.text, one, other), letter


def certify_shortest(mirrors, word):
    """That a word is shortest."""
    check_shortest(mirrors, word)
    return ("shortest", mirrors.text, word), ()


def certify_under(mirrors, one, other):
    """That the element of the one lies under that of the other, a shortest word; None if it does not."""
    indexes = part_word(mirrors, one, other)
    return None if indexes is None else (("under", mirrors.text, one, other), indexes)


def certify_order(mirrors):
    """How many elements there are, or that there is no end of them."""
    check_mirrors(mirrors)
    many = number_of_all(mirrors)
    if many is None:
        return ("endless", mirrors.text), ()
    return ("finite", mirrors.text, many), ()
