"""How many shortest words an element has, and the place of each one in their order as strings."""

from braidwords.errors import InvalidIndex
from braidwords.heights import heights_of, put_ahead, shortening
from braidwords.kinds import is_integer_between
from braidwords.lengths import check_shortest
from braidwords.mirrors import check_words
from braidwords.rows import shares_of


def how_many(mirrors, word):
    """The number of shortest words alike to it."""
    check_words(mirrors, word)
    shares = shares_of(mirrors)
    return count_words(shares, heights_of(shares, word), {})


def nth_word(mirrors, word, index):
    """The shortest word alike to it with this index, in their order as strings."""
    check_words(mirrors, word)
    shares = shares_of(mirrors)
    heights = heights_of(shares, word)
    counts = {}
    many = count_words(shares, heights, counts)
    if not is_integer_between(index, 0, many - 1):
        raise InvalidIndex(index)
    return word_at(shares, heights, counts, index)


def place_of(mirrors, word):
    """The index of a shortest word among the shortest words alike to it, in their order as strings."""
    check_words(mirrors, word)
    check_shortest(mirrors, word)
    shares = shares_of(mirrors)
    heights = heights_of(shares, word)
    counts = {}
    count_words(shares, heights, counts)
    place = 0
    for letter in word:
        # All the words that begin alike, but have a lesser letter here, stand ahead.
        lesser = [x for x in shortening(shares, heights) if x < letter]
        place += sum([counts[put_ahead(shares, x, heights)] for x in lesser])
        heights = put_ahead(shares, letter, heights)
    return place


def count_words(shares, heights, counts):
    """How many shortest words the element has; `counts` keeps it for all elements that are asked on the way."""
    if heights not in counts:
        letters = shortening(shares, heights)
        rests = [count_words(shares, put_ahead(shares, letter, heights), counts) for letter in letters]
        # The empty word has no first letter, and yet it is one.
        counts[heights] = sum(rests) if letters else 1
    return counts[heights]


def word_at(shares, heights, counts, index):
    """The shortest word of the element with this index, from the counts of all its rests."""
    word = ""
    letters = shortening(shares, heights)
    while letters:
        rests = [put_ahead(shares, letter, heights) for letter in letters]
        at = 0
        while index >= counts[rests[at]]:
            index -= counts[rests[at]]
            at += 1
        word = word + letters[at]
        heights = rests[at]
        letters = shortening(shares, heights)
    return word
