"""Words under names, and claims about them that hold whatever is changed."""

from braidwords.errors import Broken, InUse, InvalidClaim, InvalidIndex, InvalidName, UnknownName
from braidwords.history import History, Trial
from braidwords.kinds import is_integer_between, is_name
from braidwords.lengths import length
from braidwords.limits import MOST_WORD
from braidwords.mirrors import check_mirrors, check_words
from braidwords.sending import unlike_letter
from braidwords.under import is_under

# The first words of claims; all claims but those of a length name two words.
KINDS = ("alike", "unlike", "under", "length")


class Desk:
    """Words under names, with claims; each change can be taken back."""

    def __init__(self, mirrors):
        check_mirrors(mirrors)
        self._mirrors = mirrors
        # A state is the pair of the words by their names and the claims.
        self._history = History(({}, ()))

    @property
    def mirrors(self):
        """The mirrors of the words."""
        return self._mirrors

    @property
    def names(self):
        """The ascending tuple of the names."""
        words, _ = self._history.state
        return tuple(sorted(words))

    @property
    def claims(self):
        """The tuple of the claims."""
        _, claims = self._history.state
        return claims

    @property
    def changes(self):
        """How many changes can be taken back."""
        return len(self._history.earlier)

    def put(self, name, word):
        """Puts a word under a name, also in the place of what is there."""
        if not is_name(name):
            raise InvalidName(name)
        check_words(self._mirrors, word)
        words, claims = self._history.state
        more = {**words, name: word}
        check_claims(self._mirrors, more, claims)
        self._history.change((more, claims))

    def thing(self, name):
        """The word under this name."""
        if name not in self:
            raise UnknownName(name)
        words, _ = self._history.state
        return words[name]

    def drop(self, name):
        """Takes away the word under this name, which no claim names."""
        if name not in self:
            raise UnknownName(name)
        words, claims = self._history.state
        for index, claim in enumerate(claims):
            if name in names_of(claim):
                raise InUse(index)
        self._history.change(({x: words[x] for x in words if x != name}, claims))

    def claim(self, claim):
        """Makes one claim more, behind the others."""
        if not is_claim(claim):
            raise InvalidClaim(claim)
        for name in names_of(claim):
            if name not in self:
                raise UnknownName(name)
        words, claims = self._history.state
        check_claims(self._mirrors, words, claims + (claim,))
        self._history.change((words, claims + (claim,)))

    def lift(self, index):
        """Takes away the claim with this index."""
        words, claims = self._history.state
        if not is_integer_between(index, 0, len(claims) - 1):
            raise InvalidIndex(index)
        self._history.change((words, claims[:index] + claims[index + 1:]))

    def undo(self):
        """Takes back the last change that has not been taken back."""
        self._history.take_back()

    def trial(self):
        """For a `with` statement: if its rows end with an exception, the desk is as it was when they began."""
        return Trial(self, self._history, True)

    def tried(self, action):
        """What the action returns, called with the desk, which is as it was if there is an exception."""
        with self.trial() as desk:
            return action(desk)

    def __contains__(self, name):
        words, _ = self._history.state
        return isinstance(name, str) and name in words

    def __eq__(self, other):
        return isinstance(other, Desk) and self is other


def is_claim(value):
    """Whether it is a claim of a desk, whatever its names are."""
    if not isinstance(value, tuple) or len(value) != 3:
        return False
    kind, _, last = value
    if not isinstance(kind, str) or kind not in KINDS:
        return False
    return kind != "length" or is_integer_between(last, 0, MOST_WORD)


def names_of(claim):
    """The names of a claim, in order."""
    return claim[1:2] if claim[0] == "length" else claim[1:]


def check_claims(mirrors, words, claims):
    """Refuses words for which some claim does not hold."""
    for index, claim in enumerate(claims):
        holds, shown = outcome(mirrors, words, claim)
        if not holds:
            raise Broken(index, shown)


def outcome(mirrors, words, claim):
    """Whether a claim holds for these words, and what is shown of it if not."""
    kind, name, last = claim
    word = words[name]
    if kind == "length":
        many = length(mirrors, word)
        return many == last, many
    if kind == "under":
        return is_under(mirrors, word, words[last]), None
    letter = unlike_letter(mirrors, word, words[last])
    if kind == "unlike":
        return letter is not None, None
    return letter is None, letter
