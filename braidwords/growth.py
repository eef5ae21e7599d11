"""How many elements there are of each length, and whether there is an end of them."""

from braidwords.heights import empty_heights, put_ahead, shortening
from braidwords.rows import shares_of

# Where there is an end of the elements, none of them is longer. So long they are with six letters that have the numbers
# 4, 3, 3, 3, 3 each with the next one, and with those that have the most elements for the numbers 2 and 3 alone.
GREATEST_LENGTH = 36


def number_of_all(mirrors):
    """How many elements there are, None if there is no end of them."""
    shares = shares_of(mirrors)
    full = full_word(shares, mirrors.letters)
    return None if full is None else sum(counts_of(shares, len(full)))


def full_word(shares, letters):
    """A shortest word of these letters that none of them makes longer; None if there is no end of their elements."""
    word = ""
    heights = empty_heights(shares)
    while len(word) <= GREATEST_LENGTH:
        longer = [x for x in letters if x not in shortening(shares, heights)]
        if not longer:
            return word
        word = longer[0] + word
        heights = put_ahead(shares, longer[0], heights)
    return None


def counts_of(shares, most):
    """The list of the numbers of elements of each length from 0 to the greatest one that is asked for."""
    inverse = inverses_of(shares, most)[-1]
    counts = [1]
    for length in range(1, most + 1):
        counts.append(-sum([inverse[k] * counts[length - k] for k in range(1, length + 1)]))
    return counts


def inverses_of(shares, most):
    """For each lot of letters the series that, times the series of the counts of its part, is 1.

    Bit k of a lot stands for the letter with index k. A series is the list of what stands by the powers, from 0 on.
    """
    inverses = [[1] + [0] * most]
    for lot in range(1, 1 << len(shares)):
        inverses.append(inverse_of(shares, lot, inverses))
    return inverses


def inverse_of(shares, lot, inverses):
    """The series of a lot from those of all lesser lots.

    The series W of a lot, divided by that of one of its lots, counts the elements that no letter of that one shortens
    from behind. Take these with the sign + for lots of an even number of letters, - for odd ones, and all together
    leave each element out, but for the one that all letters shorten, if there is one. So the sum of the signed
    inverses of all the lots is the inverse of W, times the power of the greatest length if there is one, else 0.
    """
    letters = letters_of(shares, lot)
    full = full_word(shares, letters)
    rest = [0] * len(inverses[0])
    for lesser in range(lot):
        if lesser & lot == lesser:
            sign = sign_of(letters_of(shares, lesser))
            rest = [number + sign * more for number, more in zip(rest, inverses[lesser])]
    inverse = []
    for k, number in enumerate(rest):
        back = 0 if full is None or k < len(full) else inverse[k - len(full)]
        inverse.append(sign_of(letters) * (back - number))
    return inverse


def letters_of(shares, lot):
    """The letters of a lot that is told by bits."""
    return [letter for k, letter in enumerate(shares) if lot >> k & 1]


def sign_of(letters):
    """1 for an even number of letters, -1 for an odd one."""
    return -1 if len(letters) % 2 else 1
