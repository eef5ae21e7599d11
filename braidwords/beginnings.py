"""Which elements are beginnings of which."""

from braidwords.errors import TooMany
from braidwords.heights import heights_of, put_ahead, shortening
from braidwords.lengths import first_word
from braidwords.limits import MOST_WORDS
from braidwords.mirrors import check_words
from braidwords.rows import shares_of


def is_beginning(mirrors, one, other):
    """Whether some shortest word of the other one begins with a shortest word of the one."""
    return common(mirrors, one, other) == first_word(mirrors, one)


def common(mirrors, one, other):
    """The first word of the greatest common beginning of both."""
    check_words(mirrors, one, other)
    shares = shares_of(mirrors)
    left, right = heights_of(shares, one), heights_of(shares, other)
    word = ""
    letters = both_shortening(shares, left, right)
    while letters:
        # Each letter with which a common beginning begins, the greatest one begins with, too.
        word = word + letters[0]
        left, right = put_ahead(shares, letters[0], left), put_ahead(shares, letters[0], right)
        letters = both_shortening(shares, left, right)
    return word


def how_many_beginnings(mirrors, word):
    """How many beginnings it has, itself and the element of the empty word too."""
    check_words(mirrors, word)
    shares = shares_of(mirrors)
    # There are as many as rests, what is behind a beginning.
    ahead = [heights_of(shares, word)]
    known = {ahead[0]: True}
    while ahead:
        reached = []
        for heights in ahead:
            for letter in shortening(shares, heights):
                rest = put_ahead(shares, letter, heights)
                if rest not in known:
                    known[rest] = True
                    reached.append(rest)
        if len(known) > MOST_WORDS:
            raise TooMany(MOST_WORDS)
        ahead = reached
    return len(known)


def both_shortening(shares, left, right):
    """The letters, ascending, that shorten both elements if they are put ahead."""
    return [letter for letter in shortening(shares, left) if letter in shortening(shares, right)]
