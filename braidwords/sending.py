"""What words send rows to, and what this tells of them."""

from braidwords.errors import InvalidRow
from braidwords.heights import empty_heights, heights_of, word_ahead
from braidwords.kinds import is_integer
from braidwords.mirrors import check_words
from braidwords.rows import send_by_letter, send_by_word, shares_of, single_row

# Six rows of six integers that come back to the single rows at all do so after at most 30 = 2 * 3 * 5 times: a power p
# of a prime in the number of times takes as many of the rows as there are numbers below p without a divisor common with
# it (a single 2 may take none), which is 2 + 4 here.
MOST_TIMES = 30


def send(mirrors, word, row):
    """The row that the word sends this one to."""
    check_words(mirrors, word)
    check_row(mirrors, row)
    return send_by_word(shares_of(mirrors), word, row)


def rows_of(mirrors, word):
    """The tuple of what the word sends the single rows of all letters to, in order."""
    check_words(mirrors, word)
    shares = shares_of(mirrors)
    return tuple([send_by_word(shares, word, single_row(shares, letter)) for letter in mirrors.letters])


def is_alike(mirrors, one, other):
    """Whether two words are alike."""
    check_words(mirrors, one, other)
    shares = shares_of(mirrors)
    return heights_of(shares, one) == heights_of(shares, other)


def unlike_letter(mirrors, one, other):
    """The first letter whose single row the words send unlike, None if they are alike."""
    check_words(mirrors, one, other)
    for letter, row, mate in zip(mirrors.letters, rows_of(mirrors, one), rows_of(mirrors, other)):
        if row != mate:
            return letter
    return None


def turned_rows(mirrors, word):
    """The ascending tuple of the roots above that the word sends to roots below."""
    check_words(mirrors, word)
    shares = shares_of(mirrors)
    turned = []
    for letter in word:
        # A letter turns over its own single row alone, and sends the other roots above to each other.
        own = single_row(shares, letter)
        sent = [send_by_letter(shares, letter, row) for row in turned if row != own]
        turned = sent if own in turned else sent + [own]
    return tuple(sorted(turned))


def order_of(mirrors, word):
    """The least number of times over that the word is alike to the empty word, None if there is none."""
    check_words(mirrors, word)
    shares = shares_of(mirrors)
    heights = empty_heights(shares)
    for times in range(1, MOST_TIMES + 1):
        heights = word_ahead(shares, word, heights)
        if heights == empty_heights(shares):
            return times
    return None


def check_row(mirrors, row):
    """Refuses what is no row for these mirrors."""
    if not isinstance(row, tuple) or len(row) != mirrors.size:
        raise InvalidRow(None)
    for index, number in enumerate(row):
        if not is_integer(number):
            raise InvalidRow(index)
