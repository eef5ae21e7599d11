"""The heights of an element, by which it is known.

The height of a letter is the sum of the numbers of the row to which the word, read backwards, sends the single row of
that letter. This is a root, so the height is above or below 0 as the root is: it is below 0 exactly if the letter, put
ahead of the word, gives one of a lesser length. Words are alike exactly if all their heights are the same: behind the
one, read backwards, the other has the heights of the empty word then, all of them 1, so no letter shortens it, and it
is alike to the empty word itself. So a tuple of a few integers stands for a whole element.
"""

from braidwords.kinds import PLACES


def empty_heights(shares):
    """The heights of the empty word."""
    return (1,) * len(shares)


def put_ahead(shares, letter, heights):
    """The heights of the element with this letter put ahead."""
    own = heights[PLACES[letter]]
    return tuple([height + share * own for height, share in zip(heights, shares[letter])])


def word_ahead(shares, word, heights):
    """The heights of the element with this word put ahead."""
    for letter in reversed(word):
        heights = put_ahead(shares, letter, heights)
    return heights


def heights_of(shares, word):
    """The heights of the element of a word, of whatever size."""
    return word_ahead(shares, word, empty_heights(shares))


def shortening(shares, heights):
    """The string of the letters, ascending, that give a lesser length if put ahead."""
    return "".join([letter for letter, height in zip(shares, heights) if height < 0])


def first_of(shares, heights):
    """The first one of the shortest words of the element."""
    word = ""
    letters = shortening(shares, heights)
    while letters:
        # A letter put ahead that shortens is one with which a shortest word begins.
        word = word + letters[0]
        heights = put_ahead(shares, letters[0], heights)
        letters = shortening(shares, heights)
    return word
