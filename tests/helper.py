"""What several tests need: values of every kind, many mirrors, and plain ways to know what is right."""

import inspect
import itertools
import random
import unittest

from braidwords.errors import InvalidLetter, InvalidLot, InvalidWord, NotMirrors
from braidwords.lengths import is_shortest
from braidwords.mirrors import Mirrors

ALL = "abcdef"
NUMBERS = (2, 3, 4, 6, 0)


def nested(depth):
    """A tuple in a list in a tuple .., so many deep."""
    value = ()
    for k in range(depth - 1):
        value = [value] if k % 2 else (value,)
    return value


class Equal:
    """Says that it equals whatever it is asked about."""

    def __eq__(self, other):
        return True

    def __ne__(self, other):
        return False


class Sour:
    """Can be asked for nothing at all."""

    def refusing(self, *told):
        raise RuntimeError("asked")

    __eq__ = __ne__ = __lt__ = __le__ = __gt__ = __ge__ = __hash__ = __len__ = __bool__ = refusing
    __iter__ = __getitem__ = __contains__ = __index__ = __int__ = __str__ = __add__ = __radd__ = refusing


# Values of every kind that an argument may be, wherever an error is told for it.
ANYTHING = [
    None, True, False, 0, 1, -1, 7, 10**59, "", " ", "g", "A", "ab", "ba", "aa", "abc", "abc ab3\n", "x" * 8000,
    b"a", b"", (), ("a",), ("a", "b", 3), [], ["a"], {}, {"a": 1}, set(), {"a"}, frozenset(), range(3),
    object(), object, int, str, tuple, len, lambda: None, NotImplemented, ..., nested(20), ValueError("a"),
    Equal(), Sour(),
]


def anything_but(*right):
    """The values of every kind without these."""
    return [value for value in ANYTHING if not any(type(value) is type(x) and value == x for x in right)]


# Mirrors.

def pairs_of(size):
    return list(itertools.combinations(ALL[:size], 2))


def triples(size, numbers):
    """The angles with these numbers, one for each two letters."""
    return tuple((x, y, m) for (x, y), m in zip(pairs_of(size), numbers) if m != 2)


def all_angles(size):
    """All the angles that mirrors of this size may have."""
    return [triples(size, numbers) for numbers in itertools.product(NUMBERS, repeat=len(pairs_of(size)))]


def text_told(size, angles):
    text = ALL[:size]
    for x, y, m in angles:
        text = text + " " + x + y + str(m)
    return text


def spread(size):
    """Some angles of a size, so that each two letters have each number in some of them."""
    many = len(pairs_of(size))
    return [triples(size, [NUMBERS[(k * step + shift) % 5] for k in range(many)])
            for step in range(5) for shift in range(5)]


def small_mirrors():
    """All mirrors of up to three letters."""
    return [Mirrors(size, angles) for size in (1, 2, 3) for angles in all_angles(size)]


def some_mirrors():
    """All mirrors of up to three letters and some of each greater size."""
    return small_mirrors() + [Mirrors(size, angles) for size in (4, 5, 6) for angles in spread(size)]


def all_alike(size, number):
    """Mirrors with this number at each two letters."""
    return Mirrors(size, triples(size, [number] * 15))


def chain(*numbers):
    """Mirrors with these numbers between neighbouring letters, and 2 elsewhere."""
    return Mirrors(len(numbers) + 1, tuple(
        (ALL[k], ALL[k + 1], number) for k, number in enumerate(numbers) if number != 2))


# All the kinds of finite mirrors that stand in one piece: how many elements there are, and the greatest length.
FINITE = {
    "a": (2, 1), "ab ab3": (6, 3), "ab ab4": (8, 4), "ab ab6": (12, 6),
    "abc ab3 bc3": (24, 6), "abc ab4 bc3": (48, 9),
    "abcd ab3 bc3 cd3": (120, 10), "abcd ab4 bc3 cd3": (384, 16), "abcd ab3 bc3 bd3": (192, 12),
    "abcd ab3 bc4 cd3": (1152, 24),
    "abcde ab3 bc3 cd3 de3": (720, 15), "abcde ab4 bc3 cd3 de3": (3840, 25), "abcde ab3 bc3 cd3 ce3": (1920, 20),
    "abcdef ab3 bc3 cd3 de3 ef3": (5040, 21), "abcdef ab4 bc3 cd3 de3 ef3": (46080, 36),
    "abcdef ab3 bc3 cd3 de3 df3": (23040, 30), "abcdef ab3 bc3 cd3 cf3 de3": (51840, 36),
}

# Some of those without an end.
ENDLESS = [
    "ab ab0", "abc ab3 ac3 bc3", "abc ab4 bc4", "abc ab6 bc3", "abc ab4 bc6", "abc ab6 bc6", "abc ab3 ac3 bc4",
    "abcd ab3 ad3 bc3 cd3", "abcd ab4 bc3 cd4", "abcd ab3 bc3 bd4", "abcd ab3 bc4 cd4",
    "abcde ab3 ae3 bc3 cd3 de3", "abcde ab4 bc3 cd3 de4", "abcde ab4 bc3 cd3 ce3", "abcde ab3 ac3 ad3 ae3",
    "abcde ab3 bc3 cd4 de3",
    "abcdef ab3 af3 bc3 cd3 de3 ef3", "abcdef ab4 bc3 cd3 de3 ef4", "abcdef ab4 bc3 cd3 de3 df3",
    "abcdef ab3 bc3 bd3 de3 df3", "abcdef ab3 bc3 cd4 de3 ef3", "abcdef ab0 cd0 ef0", "abcdef ef0",
]


def renamed(text, names):
    """The mirrors with this text, with other names for their letters: names[0] for a, and so on."""
    told = Mirrors.read(text)
    angles = [(*sorted((names[ALL.index(x)], names[ALL.index(y)])), m) for x, y, m in told.angles]
    return Mirrors(told.size, tuple(sorted(angles)))


def beside(*texts):
    """Mirrors side by side: those of each text, with the number 2 to all others."""
    size, angles = 0, []
    for told in map(Mirrors.read, texts):
        angles += [(ALL[ALL.index(x) + size], ALL[ALL.index(y) + size], m) for x, y, m in told.angles]
        size += told.size
    return Mirrors(size, tuple(sorted(angles)))


# Words.

def words_of(letters, most):
    """All words of up to so many of these letters, the shorter ones first, ascending within a length."""
    return ["".join(word) for many in range(most + 1) for word in itertools.product(letters, repeat=many)]


def numbers_of(mirrors):
    """The angle number for each ordered pair of unlike letters."""
    told = {(x, y): 2 for x, y in itertools.permutations(mirrors.letters, 2)}
    for x, y, m in mirrors.angles:
        told[x, y] = told[y, x] = m
    return told


def plain_turnings(numbers, word):
    """All words got by one turning, as point [7] tells it."""
    found = set()
    for (x, y), m in numbers.items():
        was, turned = "".join([x, y] * m)[:m], "".join([y, x] * m)[:m]
        for k in range(len(word) - m + 1):
            if m and word[k:k + m] == was:
                found.add(word[:k] + turned + word[k + m:])
    return found


def plain_strikings(word):
    """All words got by one striking."""
    return {word[:k] + word[k + 2:] for k in range(len(word) - 1) if word[k] == word[k + 1]}


def plain_puttings(letters, word):
    """All words got by one putting."""
    return {word[:k] + x + x + word[k:] for k in range(len(word) + 1) for x in letters}


def is_one_step(numbers, word, other):
    """Whether the other word is got from the word by one turning, striking or putting."""
    return other in plain_turnings(numbers, word) or other in plain_strikings(word) or word in plain_strikings(other)


def plain_turned(numbers, word, index):
    """The word with the turning at this index, None if there is none."""
    for (x, y), m in numbers.items():
        if m and word[index:index + m] == "".join([x, y] * m)[:m]:
            return word[:index] + "".join([y, x] * m)[:m] + word[index + m:]
    return None


def parts_of(word):
    """All words got by leaving letters out, none or more."""
    return {"".join(part) for many in range(len(word) + 1) for part in itertools.combinations(word, many)}


def lots_of(letters):
    """All lots of these letters."""
    return ["".join(lot) for many in range(len(letters) + 1) for lot in itertools.combinations(letters, many)]


class Plain:
    """The elements of all words of up to so many letters, by a plain search through turnings, strikings, puttings."""

    def __init__(self, mirrors, most):
        self.mirrors = mirrors
        self.words = words_of(mirrors.letters, most)
        numbers = numbers_of(mirrors)
        near = {word: [] for word in self.words}
        for word in self.words:
            for other in plain_turnings(numbers, word) | plain_strikings(word):
                near[word].append(other)
                near[other].append(word)
        # For each word the list of all words alike to it, those of a length together, ascending.
        self.alike = {}
        for word in self.words:
            if word not in self.alike:
                self.gather(word, near)

    def gather(self, word, near):
        found, ahead = {word}, [word]
        while ahead:
            for other in near[ahead.pop()]:
                if other not in found:
                    found.add(other)
                    ahead.append(other)
        told = sorted(found, key=lambda x: (len(x), x))
        self.alike.update({x: told for x in told})

    def first(self, word):
        return self.alike[word][0]

    def length(self, word):
        return len(self.first(word))

    def shortest(self, word):
        told = self.alike[word]
        return [x for x in told if len(x) == len(told[0])]

    def is_under(self, one, other):
        return self.first(one) in {self.first(part) for part in parts_of(self.first(other))}


def some_plains():
    """Plain searches for all mirrors of up to three letters and for some greater ones."""
    for at, mirrors in enumerate(small_mirrors()):
        yield Plain(mirrors, 4 if at % 10 else 6)
    for mirrors in some_mirrors()[-75::10]:
        yield Plain(mirrors, 4 if mirrors.size < 6 else 3)


# Ways to know the elements of some mirrors for words of any size.

def as_order(word):
    """What the neighbours that a word changes leave, for chains of 3s: letter k changes the places k and k + 1."""
    places = list(range(7))
    for x in word:
        k = ALL.index(x)
        places[k], places[k + 1] = places[k + 1], places[k]
    return tuple(places)


def length_of_order(places):
    return sum(1 for x, y in itertools.combinations(places, 2) if x > y)


def as_signed(word):
    """The same for chains of a 4 and then 3s: the letter a changes the sign in the first place."""
    places = list(range(1, 7))
    for x in word:
        k = ALL.index(x)
        if k == 0:
            places[0] = -places[0]
        else:
            places[k - 1], places[k] = places[k], places[k - 1]
    return tuple(places)


def length_of_signed(places):
    return length_of_order(places) + sum(1 for j in range(6) for k in range(j, 6) if places[j] + places[k] < 0)


def as_ring(size, word):
    """The same for rings of 3s: the last letter changes the last place and the first one, a turn of the ring on."""
    places = list(range(size))
    for x in word:
        k = ALL.index(x)
        if k < size - 1:
            places[k], places[k + 1] = places[k + 1], places[k]
        else:
            places[0], places[k] = places[k] - size, places[0] + size
    return tuple(places)


def length_of_ring(places):
    return sum(abs((y - x) // len(places)) for x, y in itertools.combinations(places, 2))


def as_free(word):
    """The one shortest word, if all angle numbers are 0."""
    left = ""
    for x in word:
        left = left[:-1] if left.endswith(x) else left + x
    return left


# For some mirrors: what a word comes to, the same exactly for alike words, and the length of what it comes to.
MODELS = [(chain(*[3] * k), as_order, length_of_order) for k in range(1, 6)]
MODELS += [(chain(4, *[3] * k), as_signed, length_of_signed) for k in range(1, 5)]
MODELS += [(Mirrors.read(text), lambda word, size=size: as_ring(size, word), length_of_ring) for size, text in [
    (3, "abc ab3 ac3 bc3"), (4, "abcd ab3 ad3 bc3 cd3"), (5, "abcde ab3 ae3 bc3 cd3 de3"),
    (6, "abcdef ab3 af3 bc3 cd3 de3 ef3")]]
MODELS += [(all_alike(size, 0), as_free, len) for size in range(2, 7)]


def drawn_word(draw, letters, many):
    return "".join(draw.choice(letters) for _ in range(many))


def drawn_words(letters, each):
    """Some words, always the same ones: of 0 to 60 letters, and many of 60."""
    draw = random.Random(letters)
    return [drawn_word(draw, letters, many) for many in [*range(0, 60, 4), *[60] * each]]


def walked(draw, mirrors, word, moves):
    """A word alike to it, so many turnings, strikings and puttings away, of up to 60 letters."""
    numbers = numbers_of(mirrors)
    for _ in range(moves):
        found = sorted(plain_turnings(numbers, word)) * 3 + sorted(plain_strikings(word))
        if len(word) <= 58:
            k, x = draw.randint(0, len(word)), draw.choice(mirrors.letters)
            found.append(word[:k] + x + x + word[k:])
        if found:
            word = draw.choice(found)
    return word


def longest_word(mirrors):
    """A shortest word that no letter put behind makes longer; there must be an end of them."""
    word, longer = "", True
    while longer:
        longer = [x for x in mirrors.letters if is_shortest(mirrors, word + x)]
        word += "".join(longer[:1])
    return word


def shortest_word(draw, mirrors):
    """A shortest word of 60 letters; there must be no end of the elements."""
    word = ""
    while len(word) < 60:
        word += draw.choice([x for x in mirrors.letters if is_shortest(mirrors, word + x)])
    return word


# Wrong arguments.

def wrong_mirrors():
    """What is no mirrors, as `refused` takes it."""
    return [(given, NotMirrors, {"given": given}) for given in [*ANYTHING, "ab ab3", Mirrors, ("ab ab3",)]]


def wrong_words(letters):
    """What is no word of these letters, as `refused` takes it."""
    right = [x for x in ANYTHING if isinstance(x, str) and len(x) <= 60 and set(x) <= set(letters)]
    wrong = [
        *anything_but(*right), letters[0] * 61, letters[-1] * 8000, letters + " ", "\n", "A", "a1", "a-", "`", "{",
        letters.upper() + "A", b"aa", ["a", "a"], ("a", "a"), {"a"}, 0, *ALL[len(letters):], "g" * 60,
    ]
    wrong += [letters + x for x in ALL[len(letters):] + "g"] + [x + letters for x in ALL[len(letters):] + "z"]
    return [(given, InvalidWord, {"given": given}) for given in wrong]


def wrong_letters(letters):
    """What is none of these letters, as `refused` takes it."""
    wrong = [
        *ANYTHING, *ALL[len(letters):], letters + "a", "aa", "a ", " a", "\n", "a\n", "A", "`", "{", ("a",), ["a"],
        b"a",
    ]
    return [(given, InvalidLetter, {"given": given}) for given in wrong]


def wrong_lots(letters):
    """What is no lot of these letters, as `refused` takes it."""
    right = [x for x in ANYTHING if isinstance(x, str) and x in lots_of(letters)]
    wrong = [
        *anything_but(*right), *ALL[len(letters):], letters + "g", letters + letters[-1], letters[0] * 2, " ", "A",
        letters.upper(), letters + " ", letters + "\n", *([letters[::-1], letters[1::-1]] if len(letters) > 1 else []),
        tuple(letters), list(letters), letters.encode(), letters + "0",
    ]
    return [(given, InvalidLot, {"given": given}) for given in wrong]


class Case(unittest.TestCase):
    def refuses(self, error, attributes, call, *args, **named):
        """The call raises just this error with just these attributes."""
        with self.assertRaises(error) as caught:
            call(*args, **named)
        self.assertIs(type(caught.exception), error)
        told = vars(caught.exception)
        self.assertEqual(set(told), set(attributes))
        for name, value in attributes.items():
            if value is not told[name]:
                self.assertIs(type(told[name]), type(value))
                self.assertEqual(told[name], value)

    def refused(self, call, *parameters):
        """What is wrong in each parameter is refused, alone and ahead of wrong ones behind it.

        Each parameter is its name, a right value, and triples of a wrong value, the error and its attributes.
        """
        names = [name for name, _, _ in parameters]
        for at, (name, _, wrong) in enumerate(parameters):
            for k, (given, error, attributes) in enumerate(wrong):
                alone = [value for _, value, _ in parameters]
                alone[at] = given
                mixed = alone[:at + 1] + [others[k % len(others)][0] for _, _, others in parameters[at + 1:]]
                for values in (alone, mixed):
                    self.refuses(error, attributes, call, *values)
                    self.refuses(error, attributes, call, **dict(reversed(list(zip(names, values)))))

    def is_listed(self, thing, module, parameters):
        """It is defined in this module and has these parameters, all by position or by name."""
        self.assertEqual(thing.__module__, module)
        told = inspect.signature(thing).parameters
        self.assertEqual(list(told), parameters)
        for parameter in told.values():
            self.assertIs(parameter.kind, inspect.Parameter.POSITIONAL_OR_KEYWORD)
            self.assertIs(parameter.default, inspect.Parameter.empty)

    def equals_itself_alone(self, thing, *others):
        """It is true, equals itself, and none of the others, whatever they are."""
        self.assertIs(bool(thing), True)
        self.assertIs(thing == thing, True)
        self.assertIs(thing != thing, False)
        for other in [*ANYTHING, Mirrors(1, ()), *others]:
            self.assertIs(thing == other, False)
            self.assertIs(thing != other, True)
            if type(other) not in (Equal, Sour):
                self.assertIs(other == thing, False)
                self.assertIs(other != thing, True)

    def same(self, told, right):
        """Both are equal, with the same kinds of values throughout, also inside of tuples."""
        self.assertEqual(told, right)
        self.assertEqual(kinds_of(told), kinds_of(right))


def kinds_of(value):
    return (tuple, [kinds_of(x) for x in value]) if type(value) is tuple else type(value)
