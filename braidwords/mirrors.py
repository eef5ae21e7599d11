"""Mirrors and the angle numbers between them."""

from braidwords.errors import InvalidAngles, InvalidLetter, InvalidLot, InvalidNumber, InvalidText, InvalidWord
from braidwords.errors import NotMirrors
from braidwords.kinds import ALPHABET, is_integer, is_integer_between, is_letter, is_lot, is_word
from braidwords.limits import MOST_LETTERS

# The angle number of two mirrors of which nothing is told.
PLAIN_NUMBER = 2

# The angle numbers that are told, and how a text writes each.
TOLD_NUMBERS = (3, 4, 6, 0)
WRITTEN_NUMBERS = {"3": 3, "4": 4, "6": 6, "0": 0}


class Mirrors:
    """Some mirrors, named by letters, with an angle number for each two; it never changes."""

    def __init__(self, size, angles):
        if not is_integer_between(size, 1, MOST_LETTERS):
            raise InvalidNumber(size)
        if not isinstance(angles, tuple):
            raise InvalidAngles(None)
        wrong = first_wrong(ALPHABET[:size], angles)
        if wrong is not None:
            raise InvalidAngles(wrong)
        self._letters = ALPHABET[:size]
        self._angles = angles
        self._text = text_of(self._letters, angles)

    @classmethod
    def read(cls, text):
        """The mirrors with this text."""
        told = told_by(text)
        if told is None:
            raise InvalidText(text)
        size, angles = told
        return cls(size, angles)

    @property
    def size(self):
        """How many mirrors there are."""
        return len(self._letters)

    @property
    def angles(self):
        """The triples of two letters and their angle number, if it is not 2, ascending."""
        return self._angles

    @property
    def letters(self):
        """The string of their letters."""
        return self._letters

    @property
    def text(self):
        """Their text, from which `read` makes them again."""
        return self._text

    def __eq__(self, other):
        return isinstance(other, Mirrors) and self._text == other._text

    def __str__(self):
        return str(self._text)

    def __repr__(self):
        return f"Mirrors of {len(self._letters)} letters"


def angle(mirrors, letter, mate):
    """The angle number of two letters, 1 if both are the same."""
    check_mirrors(mirrors)
    check_letter(mirrors, letter)
    check_letter(mirrors, mate)
    return 1 if letter == mate else number_between(mirrors, min(letter, mate), max(letter, mate))


def part(mirrors, lot):
    """The mirrors of the letters of a lot, which is not empty, renamed in order."""
    check_mirrors(mirrors)
    check_lot(mirrors, lot)
    if lot == "":
        raise InvalidLot(lot)
    # The new names keep the order of the old ones, so the triples stay ascending.
    angles = [
        (ALPHABET[lot.index(x)], ALPHABET[lot.index(y)], number)
        for x, y, number in mirrors.angles
        if x in lot and y in lot
    ]
    return Mirrors(len(lot), tuple(angles))


def check_mirrors(mirrors):
    """Refuses what is no mirrors."""
    if not isinstance(mirrors, Mirrors):
        raise NotMirrors(mirrors)


def check_letter(mirrors, letter):
    """Refuses what is no letter of these mirrors."""
    if not is_letter(mirrors.letters, letter):
        raise InvalidLetter(letter)


def check_lot(mirrors, lot):
    """Refuses what is no lot of letters of these mirrors."""
    if not is_lot(mirrors.letters, lot):
        raise InvalidLot(lot)


def check_words(mirrors, *words):
    """Refuses what is no mirrors, then the first one that is no word for them."""
    check_mirrors(mirrors)
    for word in words:
        if not is_word(mirrors.letters, word):
            raise InvalidWord(word)


def number_between(mirrors, low, high):
    """The angle number of two letters, the lesser one first."""
    for x, y, number in mirrors.angles:
        if x == low and y == high:
            return number
    return PLAIN_NUMBER


def first_wrong(letters, angles):
    """The index of the first one that is no triple in its place, None if there is none."""
    last = ("", "")
    for index, value in enumerate(angles):
        if not is_triple(letters, value) or value[:2] <= last:
            return index
        last = value[:2]
    return None


def is_triple(letters, value):
    """Whether it is a triple of two of these letters, in order, and an angle number that is told."""
    if not isinstance(value, tuple) or len(value) != 3:
        return False
    x, y, number = value
    if not is_letter(letters, x) or not is_letter(letters, y) or not is_integer(number):
        return False
    return x < y and number in TOLD_NUMBERS


def told_by(text):
    """The pair of the size and the angles that a text of mirrors tells; None if it is none."""
    if not isinstance(text, str):
        return None
    letters, *words = text.split(" ")
    size = len(letters)
    angles = tuple([triple_of(word) for word in words])
    if size == 0 or letters != ALPHABET[:size] or first_wrong(letters, angles) is not None:
        return None
    return size, angles


def triple_of(word):
    """The triple that a word of a text writes; one that is none if the word writes none."""
    return (word[:1], word[1:2], WRITTEN_NUMBERS.get(word[2:]))


def text_of(letters, angles):
    """The text of mirrors with these letters and angles."""
    return " ".join([letters] + [f"{x}{y}{number}" for x, y, number in angles])
