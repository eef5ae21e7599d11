"""Rows of numbers, and what letters and words send them to.

Where a function takes `shares`, they are those that `shares_of` tells of the mirrors.
"""

from braidwords.kinds import PLACES
from braidwords.mirrors import number_between

# The number c(x, y) for each angle number: with x less than y, and with x greater than y.
SHARES_OF_LESSER = {2: 0, 3: 1, 4: 1, 6: 1, 0: 2}
SHARES_OF_GREATER = {2: 0, 3: 1, 4: 2, 6: 3, 0: 2}


def shares_of(mirrors):
    """For each letter x the tuple of the numbers c(x, y) of all letters y."""
    return {x: tuple([share_between(mirrors, x, y) for y in mirrors.letters]) for x in mirrors.letters}


def share_between(mirrors, letter, mate):
    """The number c(x, y) of two letters, -2 for the same one."""
    if letter == mate:
        # Twice less than it was is what "less r(x)" comes to, so x needs no rule apart.
        return -2
    number = number_between(mirrors, min(letter, mate), max(letter, mate))
    return SHARES_OF_LESSER[number] if letter < mate else SHARES_OF_GREATER[number]


def single_row(shares, letter):
    """The row with 1 at this letter and 0 elsewhere."""
    return tuple([1 if x == letter else 0 for x in shares])


def send_by_letter(shares, letter, row):
    """The row that a letter sends this one to."""
    at = PLACES[letter]
    more = sum([share * number for share, number in zip(shares[letter], row)])
    return row[:at] + (row[at] + more,) + row[at + 1:]


def send_by_word(shares, word, row):
    """The row that a word, of whatever size, sends this one to."""
    for letter in reversed(word):
        row = send_by_letter(shares, letter, row)
    return row
