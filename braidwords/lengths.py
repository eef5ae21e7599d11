"""Lengths, shortest words, and what shortens a word."""

from braidwords.errors import NotShortest
from braidwords.heights import first_of, heights_of, shortening
from braidwords.mirrors import check_words
from braidwords.rows import send_by_word, shares_of, single_row


def length(mirrors, word):
    """How many letters the shortest words alike to it have."""
    return len(first_word(mirrors, word))


def is_shortest(mirrors, word):
    """Whether no word alike to it has fewer letters."""
    return length(mirrors, word) == len(word)


def first_word(mirrors, word):
    """The first one of the shortest words alike to it."""
    check_words(mirrors, word)
    shares = shares_of(mirrors)
    return first_of(shares, heights_of(shares, word))


def struck(mirrors, word):
    """The first pair of indexes of letters without which the word is alike to it, None if it is shortest."""
    check_words(mirrors, word)
    shares = shares_of(mirrors)
    # To leave out a letter is to put ahead what turns over the root to which the word ahead of that letter sends its
    # single row; two such leave all as it was exactly if their roots are the same, or the opposite of one another.
    roots = [root_above(send_by_word(shares, word[:k], single_row(shares, word[k]))) for k in range(len(word))]
    for index, root in enumerate(roots):
        if root in roots[index + 1:]:
            return (index, roots.index(root, index + 1))
    return None


def shorteners(mirrors, word):
    """The letters, ascending, that, put behind the word, give one of a lesser length."""
    check_words(mirrors, word)
    shares = shares_of(mirrors)
    # Read backwards, what is put behind stands ahead, and lengths stay.
    return shortening(shares, heights_of(shares, word[::-1]))


def left_shorteners(mirrors, word):
    """The letters, ascending, that, put ahead of the word, give one of a lesser length."""
    check_words(mirrors, word)
    shares = shares_of(mirrors)
    return shortening(shares, heights_of(shares, word))


def root_above(root):
    """The root, or its opposite, whichever is above."""
    return root if min(root) >= 0 else tuple([-number for number in root])


def check_shortest(mirrors, word):
    """Refuses a word that is not shortest."""
    indexes = struck(mirrors, word)
    if indexes is not None:
        raise NotShortest(indexes)
