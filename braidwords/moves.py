"""Turnings and strikings, and ways of them from one word to another."""

from braidwords.errors import NotAlike, TooMany
from braidwords.heights import heights_of, put_ahead, shortening
from braidwords.lengths import check_shortest
from braidwords.limits import MOST_WORDS
from braidwords.mirrors import check_words
from braidwords.rows import shares_of
from braidwords.sending import unlike_letter
from braidwords.turning import all_struck, all_turned, brought, turns_of


def turnings(mirrors, word):
    """The ascending tuple of all words got from it by one turning."""
    check_words(mirrors, word)
    return tuple(all_turned(turns_of(mirrors), word))


def strikings(mirrors, word):
    """The ascending tuple of all words got from it by one striking."""
    check_words(mirrors, word)
    return tuple(all_struck(word))


def steps(mirrors, word):
    """Words from this one to the first word of its element, each next one by one turning or striking."""
    check_words(mirrors, word)
    shares = shares_of(mirrors)
    turns = turns_of(mirrors)
    shorter = steps_to_shortest(shares, turns, word)
    return tuple(shorter + steps_to_first(shares, turns, shorter[-1])[1:])


def fewest_turnings(mirrors, one, other):
    """The least number of turnings from one shortest word to another."""
    check_words(mirrors, one, other)
    check_alike(mirrors, one, other)
    check_shortest(mirrors, one)
    check_shortest(mirrors, other)
    return turnings_to_all(turns_of(mirrors), one)[other]


def path(mirrors, one, other):
    """Words from the one to the other, each next one by one turning, striking or putting."""
    check_words(mirrors, one, other)
    check_alike(mirrors, one, other)
    # Backwards, a striking is a putting, and a turning is one, too.
    return steps(mirrors, one) + steps(mirrors, other)[-2::-1]


def check_alike(mirrors, one, other):
    """Refuses words that are not alike."""
    letter = unlike_letter(mirrors, one, other)
    if letter is not None:
        raise NotAlike(letter)


def steps_to_shortest(shares, turns, word):
    """Words from this one to a shortest one: from its end on, letter by letter, all that is behind is kept shortest."""
    row = [word]
    behind = ""
    for index in reversed(range(len(word))):
        letter = word[index]
        if letter in shortening(shares, heights_of(shares, behind)):
            # Brought to the front of what is behind it, the letter stands beside itself.
            moved = brought(turns, behind, letter)
            behind = moved[-1][1:]
            row.extend([word[:index] + letter + told for told in moved[1:]])
            row.append(word[:index] + behind)
        else:
            behind = letter + behind
    return row


def steps_to_first(shares, turns, word):
    """Words from a shortest one to the first word of its element, by turnings alone."""
    row = [word]
    heights = heights_of(shares, word)
    for index in range(len(word)):
        letter = shortening(shares, heights)[0]
        ahead, behind = row[-1][:index], row[-1][index:]
        row.extend([ahead + told for told in brought(turns, behind, letter)[1:]])
        heights = put_ahead(shares, letter, heights)
    return row


def turnings_to_all(turns, word):
    """For each word of the element of a shortest one the least number of turnings to it."""
    fewest = {word: 0}
    ahead = [word]
    while ahead:
        reached = []
        for near in ahead:
            for told in all_turned(turns, near):
                if told not in fewest:
                    fewest[told] = fewest[near] + 1
                    reached.append(told)
            if len(fewest) > MOST_WORDS:
                raise TooMany(MOST_WORDS)
        ahead = reached
    return fewest
