"""How elements are parted by lots of letters, and which element turns which rows."""

from braidwords.errors import InvalidRows
from braidwords.heights import first_of, heights_of, put_ahead, shortening
from braidwords.kinds import is_integer
from braidwords.lengths import first_word
from braidwords.limits import MOST_WORD
from braidwords.mirrors import check_lot, check_mirrors, check_words
from braidwords.rows import send_by_letter, shares_of, single_row
from braidwords.sending import turned_rows


def parted(mirrors, word, lot):
    """The first words of two elements that, one behind the other, are alike to the word.

    The one behind is of the part of the lot; no letter of the lot, put behind the one ahead, makes that shorter.
    """
    check_words(mirrors, word)
    check_lot(mirrors, lot)
    # Read backwards, what stands behind stands ahead.
    taken, left = taken_ahead(shares_of(mirrors), word[::-1], lot)
    return first_word(mirrors, left[::-1]), first_word(mirrors, taken[::-1])


def inner(mirrors, lot, word, rest):
    """The first word of the shortest element got by putting letters of the lot ahead, letters of the rest behind."""
    check_mirrors(mirrors)
    check_lot(mirrors, lot)
    check_words(mirrors, word)
    check_lot(mirrors, rest)
    shares = shares_of(mirrors)
    _, left = taken_ahead(shares, word, lot)
    # What is taken from behind then leaves nothing more to be taken from the front.
    _, left = taken_ahead(shares, left[::-1], rest)
    return first_word(mirrors, left[::-1])


def is_part(mirrors, word, lot):
    """Whether the element is of the part of the lot."""
    check_words(mirrors, word)
    check_lot(mirrors, lot)
    # If a word of the element has letters of the lot alone, so have the shortest ones, got from it by leaving out some.
    return all([letter in lot for letter in first_word(mirrors, word)])


def support(mirrors, word):
    """The string of the letters of its shortest words, ascending."""
    shortest = first_word(mirrors, word)
    return "".join([letter for letter in mirrors.letters if letter in shortest])


def word_of_rows(mirrors, rows):
    """The first word of the element that turns just these rows, in any order; None if there is none."""
    check_mirrors(mirrors)
    check_rows(mirrors, rows)
    word = word_turning(shares_of(mirrors), rows)
    if word is None or turned_rows(mirrors, word) != tuple(sorted(rows)):
        return None
    return first_word(mirrors, word)


def taken_ahead(shares, word, lot):
    """The word of letters of the lot that is taken from the front of the element, and a word of what is left.

    So many are taken that no letter of the lot, put ahead of what is left, makes that shorter.
    """
    heights = heights_of(shares, word)
    taken = ""
    letters = [x for x in shortening(shares, heights) if x in lot]
    while letters:
        taken = taken + letters[0]
        heights = put_ahead(shares, letters[0], heights)
        letters = [x for x in shortening(shares, heights) if x in lot]
    return taken, first_of(shares, heights)


def word_turning(shares, rows):
    """A word of the element that turns just these rows if any does; else any word, or None."""
    word = ""
    while rows:
        # Whatever turns rows turns some single one: its letter stands last in a word that does.
        last = [x for x in shares if single_row(shares, x) in rows][:1]
        if not last:
            return None
        own = single_row(shares, last[0])
        rows = [send_by_letter(shares, last[0], row) for row in rows if row != own]
        word = last[0] + word
    return word


def check_rows(mirrors, rows):
    """Refuses what is no tuple of unlike rows for these mirrors, or of too many."""
    if not isinstance(rows, tuple):
        raise InvalidRows(None)
    for index, row in enumerate(rows):
        if index == MOST_WORD or not is_row(mirrors, row) or row in rows[:index]:
            raise InvalidRows(index)


def is_row(mirrors, value):
    """Whether it is a row for these mirrors."""
    return isinstance(value, tuple) and len(value) == mirrors.size and all([is_integer(number) for number in value])
