"""Which elements lie under which."""

from braidwords.errors import TooMany
from braidwords.heights import empty_heights, first_of, heights_of, put_ahead, shortening
from braidwords.lengths import check_shortest, first_word
from braidwords.limits import MOST_WORDS
from braidwords.mirrors import check_words
from braidwords.rows import shares_of


def is_under(mirrors, one, other):
    """Whether the element of the one lies under that of the other."""
    check_words(mirrors, one, other)
    return part_of(shares_of(mirrors), one, first_word(mirrors, other)) is not None


def part_word(mirrors, one, other):
    """Indexes, ascending, of letters of a shortest word that make a word alike to the one; None if none do."""
    check_words(mirrors, one, other)
    check_shortest(mirrors, other)
    return part_of(shares_of(mirrors), one, other)


def how_many_under(mirrors, word):
    """How many elements lie under it, itself too."""
    shortest = first_word(mirrors, word)
    shares = shares_of(mirrors)
    found = [empty_heights(shares)]
    known = {empty_heights(shares): True}
    for letter in reversed(shortest):
        # What lies under a letter more is what lay under the rest, with this letter put ahead or not.
        for heights in list(found):
            more = put_ahead(shares, letter, heights)
            if more not in known:
                known[more] = True
                found.append(more)
        if len(found) > MOST_WORDS:
            raise TooMany(MOST_WORDS)
    return len(found)


def just_under(mirrors, word):
    """The tuple of the first words of those of a length one less that lie under it, ordered as strings."""
    shortest = first_word(mirrors, word)
    shares = shares_of(mirrors)
    parts = [shortest[:k] + shortest[k + 1:] for k in range(len(shortest))]
    firsts = [first_of(shares, heights_of(shares, part)) for part in parts]
    # To leave out one letter or another one never makes the same, so none is there twice.
    return tuple(sorted([first for first in firsts if len(first) == len(shortest) - 1]))


def part_of(shares, one, other):
    """Indexes of letters of the other word, a shortest one, that make a word alike to the one, None if none do.

    Each letter that shortens what is left of the one is taken: if the one lies under the other at all, what is left
    of it lies under what is left of the other then.
    """
    heights = heights_of(shares, one)
    indexes = []
    for index, letter in enumerate(other):
        if letter in shortening(shares, heights):
            heights = put_ahead(shares, letter, heights)
            indexes.append(index)
    return tuple(indexes) if heights == empty_heights(shares) else None
