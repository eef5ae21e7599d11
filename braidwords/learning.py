"""What is sure of words if some angle numbers are not known."""

from braidwords.errors import InvalidTold, InvalidUnknown, NoMove
from braidwords.kinds import is_lot, is_word
from braidwords.limits import MOST_TOLD, MOST_UNKNOWN
from braidwords.mirrors import TOLD_NUMBERS, Mirrors, check_mirrors, check_words
from braidwords.sending import is_alike


def fitting(mirrors, unknown, told):
    """The tuple of all mirrors that fit, ordered by the angle numbers of the unknown pairs."""
    check_mirrors(mirrors)
    check_unknown(mirrors, unknown)
    check_told(mirrors, told)
    return tuple([guess for guess in guesses_of(mirrors, unknown) if is_all_so(guess, told)])


def judge(mirrors, unknown, told, one, other):
    """Whether two words are "alike" or "unlike" for all mirrors that fit, or "open"."""
    guesses = fitting(mirrors, unknown, told)
    check_words(mirrors, one, other)
    if not guesses:
        raise NoMove()
    found = [is_alike(guess, one, other) for guess in guesses]
    if all(found):
        return "alike"
    return "open" if any(found) else "unlike"


def guesses_of(mirrors, unknown):
    """All mirrors with these angle numbers but for the unknown pairs, which have any."""
    rows = [[told for told in mirrors.angles if told[0] + told[1] not in unknown]]
    for pair in unknown:
        rows = [row + told for row in rows for told in triples_for(pair)]
    return [Mirrors(mirrors.size, tuple(sorted(row))) for row in rows]


def triples_for(pair):
    """For each angle number that a pair may have the list of what mirrors tell of it."""
    return [[]] + [[(pair[0], pair[1], number)] for number in TOLD_NUMBERS]


def is_all_so(mirrors, told):
    """Whether all that is told is so for these mirrors."""
    for one, other, alike in told:
        if is_alike(mirrors, one, other) != alike:
            return False
    return True


def check_unknown(mirrors, unknown):
    """Refuses what is no ascending tuple of pairs, or one of too many."""
    if not isinstance(unknown, tuple):
        raise InvalidUnknown(None)
    for index, pair in enumerate(unknown):
        if index == MOST_UNKNOWN or not is_pair(mirrors, pair) or (index > 0 and pair <= unknown[index - 1]):
            raise InvalidUnknown(index)


def check_told(mirrors, told):
    """Refuses what is no tuple of things that are told, or one of too many."""
    if not isinstance(told, tuple):
        raise InvalidTold(None)
    for index, thing in enumerate(told):
        if index == MOST_TOLD or not is_thing_told(mirrors, thing):
            raise InvalidTold(index)


def is_pair(mirrors, value):
    """Whether it is a string of two unlike letters, the lesser one first."""
    return is_lot(mirrors.letters, value) and len(value) == 2


def is_thing_told(mirrors, value):
    """Whether it is a triple of two words and whether they are alike."""
    if not isinstance(value, tuple) or len(value) != 3:
        return False
    one, other, alike = value
    return is_word(mirrors.letters, one) and is_word(mirrors.letters, other) and isinstance(alike, bool)
