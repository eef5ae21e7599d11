"""A word that is led by hand."""

from braidwords.errors import InvalidIndex, NoMove, TooMany
from braidwords.history import History, Trial
from braidwords.kinds import is_integer_between
from braidwords.lengths import first_word
from braidwords.limits import MOST_WORD
from braidwords.mirrors import check_letter, check_mirrors
from braidwords.turning import struck_at, turned_at, turns_of


class Board:
    """A word, at first empty, that changes by single moves, each of which can be taken back."""

    def __init__(self, mirrors):
        check_mirrors(mirrors)
        self._mirrors = mirrors
        self._history = History("")

    @property
    def mirrors(self):
        """The mirrors of the word."""
        return self._mirrors

    @property
    def word(self):
        """The word as it is now."""
        return self._history.state

    @property
    def length(self):
        """How many letters the shortest words alike to the word have."""
        return len(first_word(self._mirrors, self._history.state))

    @property
    def changes(self):
        """How many changes can be taken back."""
        return len(self._history.earlier)

    def put(self, letter):
        """Puts this letter behind the word."""
        check_letter(self._mirrors, letter)
        if len(self.word) == MOST_WORD:
            raise TooMany(MOST_WORD)
        self._history.change(self.word + letter)

    def turn(self, index):
        """Does the turning at the letters that begin at this index."""
        check_index(self.word, index)
        self._go_to(turned_at(turns_of(self._mirrors), self.word, index))

    def strike(self, index):
        """Leaves out the letter with this index and the next one, which is the same."""
        check_index(self.word, index)
        self._go_to(struck_at(self.word, index))

    def shorten(self):
        """Puts the first word of its element in the place of the word."""
        self._history.change(first_word(self._mirrors, self.word))

    def undo(self):
        """Takes back the last change that has not been taken back."""
        self._history.take_back()

    def trial(self):
        """For a `with` statement: when its rows end, the board is as it was when they began."""
        return Trial(self, self._history, False)

    def tried(self, action):
        """What the action returns, called with the board, which is as it was then."""
        with self.trial() as board:
            return action(board)

    def __eq__(self, other):
        return isinstance(other, Board) and self is other

    def _go_to(self, word):
        """Changes the word to one that a move has led to, None if there is no such move."""
        if word is None:
            raise NoMove()
        self._history.change(word)


def check_index(word, index):
    """Refuses what is no index of a letter of the word."""
    if not is_integer_between(index, 0, len(word) - 1):
        raise InvalidIndex(index)
