"""A desk that is led by lines of text."""

from braidwords.counting import how_many
from braidwords.desks import Desk
from braidwords.errors import InvalidCommand
from braidwords.growth import number_of_all
from braidwords.kinds import is_name, is_of_letters
from braidwords.lengths import first_word, length
from braidwords.sending import is_alike
from braidwords.under import is_under

# All commands. A word in capitals stands for one of the kind below.
FORMS = (
    "word NAME WORD", "drop NAME", "lift N", "undo",
    "claim alike NAME NAME", "claim unlike NAME NAME", "claim under NAME NAME", "claim length NAME N",
    "alike NAME NAME", "under NAME NAME", "length NAME", "many NAME", "first NAME", "show NAME",
    "names", "claims", "order",
)

# The greatest integer of a command, and how a command writes the empty word.
GREATEST = 10 ** 20
EMPTY = "-"


def put_word(desk, name, word):
    """Puts a word under a name."""
    desk.put(name, word)
    return "ok"


def drop_word(desk, name):
    """Takes away the word under a name."""
    desk.drop(name)
    return "ok"


def lift_claim(desk, index):
    """Takes away a claim."""
    desk.lift(index)
    return "ok"


def undo_last(desk):
    """Takes back the last change."""
    desk.undo()
    return "ok"


def make_claim(desk, kind, name, last):
    """Makes a claim."""
    desk.claim((kind, name, last))
    return "ok"


def tell_alike(desk, name, mate):
    """Whether two words are alike."""
    return "yes" if is_alike(desk.mirrors, desk.thing(name), desk.thing(mate)) else "no"


def tell_under(desk, name, mate):
    """Whether the element of the first word lies under that of the other one."""
    return "yes" if is_under(desk.mirrors, desk.thing(name), desk.thing(mate)) else "no"


def tell_length(desk, name):
    """The length of a word."""
    return str(length(desk.mirrors, desk.thing(name)))


def tell_many(desk, name):
    """The number of shortest words alike to a word."""
    return str(how_many(desk.mirrors, desk.thing(name)))


def tell_first(desk, name):
    """The first one of the shortest words alike to a word."""
    return written(first_word(desk.mirrors, desk.thing(name)))


def tell_word(desk, name):
    """The word under a name."""
    return written(desk.thing(name))


def tell_names(desk):
    """The names."""
    return " ".join(desk.names)


def tell_claims(desk):
    """The number of claims."""
    return str(len(desk.claims))


def tell_order(desk):
    """The number of elements."""
    many = number_of_all(desk.mirrors)
    return "no end" if many is None else str(many)


# What is done for the first word of a command, with what its other words stand for.
ACTIONS = {
    "word": put_word, "drop": drop_word, "lift": lift_claim, "undo": undo_last, "claim": make_claim,
    "alike": tell_alike, "under": tell_under, "length": tell_length, "many": tell_many,
    "first": tell_first, "show": tell_word, "names": tell_names, "claims": tell_claims, "order": tell_order,
}


class Console:
    """A desk, and commands for it."""

    def __init__(self, mirrors):
        self._desk = Desk(mirrors)

    @property
    def desk(self):
        """The desk that the commands are for."""
        return self._desk

    def run(self, command):
        """Does a command and returns its answer."""
        form = form_of(command)
        if form is None:
            raise InvalidCommand(command)
        words = command.split(" ")
        action = ACTIONS[words[0]]
        values = values_of(form, words)
        return action(self._desk, *values)

    def __eq__(self, other):
        return isinstance(other, Console) and self is other


def form_of(command):
    """The form that a command has, None if it is none."""
    if not isinstance(command, str):
        return None
    words = command.split(" ")
    for form in FORMS:
        signs = form.split(" ")
        if len(signs) == len(words) and all([is_meant(sign, word) for sign, word in zip(signs, words)]):
            return form
    return None


def is_meant(sign, word):
    """Whether a word of a command may stand for that of the form."""
    if sign == "NAME":
        return is_name(word)
    if sign == "WORD":
        return word == EMPTY or is_of_letters(word)
    if sign == "N":
        return is_numeral(word)
    return word == sign


def is_numeral(word):
    """Whether it writes an integer from 0 to the greatest one, without needless zeros."""
    # Python reads no numerals that are too long, so their size is asked first.
    if word == "" or len(word) > len(str(GREATEST)) or not all([x in "0123456789" for x in word]):
        return False
    return word == str(int(word)) and int(word) <= GREATEST


def values_of(form, words):
    """What the words of a command behind its first one stand for."""
    signs = form.split(" ")
    return [value_of(sign, word) for sign, word in zip(signs[1:], words[1:])]


def value_of(sign, word):
    """What a word of a command stands for."""
    if sign == "N":
        return int(word)
    return "" if word == EMPTY else word


def written(word):
    """How an answer writes a word."""
    return EMPTY if word == "" else word
