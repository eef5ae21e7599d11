"""Whether a claim is shown by its paper; nothing else is believed."""

from braidwords.growth import number_of_all
from braidwords.heights import heights_of
from braidwords.kinds import is_integer, is_letter, is_word
from braidwords.lengths import is_shortest
from braidwords.mirrors import Mirrors, told_by
from braidwords.rows import send_by_word, shares_of, single_row
from braidwords.turning import all_struck, all_turned, turns_of


def shows_alike(mirrors, told, paper):
    """Whether the paper leads from the one word to the other, step by step."""
    if not are_words(mirrors, told, 2) or not isinstance(paper, tuple) or not are_words(mirrors, paper, len(paper)):
        return False
    if paper[:1] != told[:1] or paper[-1:] != told[1:]:
        return False
    turns = turns_of(mirrors)
    return all([is_step(turns, word, other) for word, other in zip(paper, paper[1:])])


def shows_unlike(mirrors, told, paper):
    """Whether the paper is a letter whose single row the words send unlike."""
    if not are_words(mirrors, told, 2) or not is_letter(mirrors.letters, paper):
        return False
    one, other = told
    shares = shares_of(mirrors)
    row = single_row(shares, paper)
    return send_by_word(shares, one, row) != send_by_word(shares, other, row)


def shows_shortest(mirrors, told, paper):
    """Whether the word is shortest."""
    return are_words(mirrors, told, 1) and is_empty(paper) and is_shortest(mirrors, told[0])


def shows_under(mirrors, told, paper):
    """Whether the paper takes letters of a shortest word that make one alike to the other."""
    if not are_words(mirrors, told, 2) or not is_shortest(mirrors, told[1]) or not are_indexes(told[1], paper):
        return False
    one, other = told
    shares = shares_of(mirrors)
    taken = "".join([other[index] for index in paper])
    return heights_of(shares, one) == heights_of(shares, taken)


def shows_finite(mirrors, told, paper):
    """Whether there are just so many elements."""
    return len(told) == 1 and is_integer(told[0]) and is_empty(paper) and told[0] == number_of_all(mirrors)


def shows_endless(mirrors, told, paper):
    """Whether there is no end of the elements."""
    return len(told) == 0 and is_empty(paper) and number_of_all(mirrors) is None


# For the first word of a claim what asks its paper.
SHOWING = {
    "alike": shows_alike, "unlike": shows_unlike, "shortest": shows_shortest, "under": shows_under,
    "finite": shows_finite, "endless": shows_endless,
}


def accepts(claim, paper):
    """Whether it is a claim for the checker, and the paper is one for it."""
    if not isinstance(claim, tuple) or len(claim) < 2 or not isinstance(claim[0], str) or claim[0] not in SHOWING:
        return False
    read = told_by(claim[1])
    if read is None:
        return False
    size, angles = read
    shows = SHOWING[claim[0]]
    return shows(Mirrors(size, angles), claim[2:], paper)


def are_words(mirrors, values, many):
    """Whether these are so many values, all of them words."""
    return len(values) == many and all([is_word(mirrors.letters, value) for value in values])


def are_indexes(word, values):
    """Whether it is an ascending tuple of indexes of letters of the word."""
    if not isinstance(values, tuple) or not all([is_integer(value) for value in values]):
        return False
    # Each one is greater than all ahead of it, so none is below 0 and none is too great.
    return all([x < y for x, y in zip((-1, *values), (*values, len(word)))])


def is_empty(paper):
    """Whether it is the paper in which nothing stands."""
    return isinstance(paper, tuple) and len(paper) == 0


def is_step(turns, word, other):
    """Whether the other word is got from the word by one turning, striking or putting."""
    return other in all_turned(turns, word) or other in all_struck(word) or word in all_struck(other)
