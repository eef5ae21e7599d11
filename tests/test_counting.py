"""How many shortest words there are, and their order: points [2], [7] and [9] and the interface."""

import math
import random
import unittest

from braidwords.counting import how_many, nth_word, place_of
from braidwords.errors import InvalidIndex, InvalidWord, NotShortest
from braidwords.lengths import first_word, is_shortest, length, struck
from braidwords.mirrors import Mirrors
from braidwords.sending import is_alike
from helper import ANYTHING, Case, all_alike, beside, chain, drawn_word, drawn_words, longest_word, numbers_of
from helper import plain_turnings, some_mirrors, some_plains, wrong_mirrors, wrong_words

THREE = Mirrors(3, (("a", "b", 3), ("b", "c", 3)))
RING = Mirrors.read("abc ab3 ac3 bc3")
TWO = Mirrors.read("ab ab0")
PAIRS = Mirrors.read("abcdef ab0 cd0 ef0")


def fillings(*rows):
    """How many ways there are to number the places of such rows of boxes, ascending to the right and downwards."""
    hooks = 1
    for y, row in enumerate(rows):
        for x in range(row):
            hooks *= row - x + sum(1 for other in rows[y + 1:] if other > x)
    return math.factorial(sum(rows)) // hooks


def all_turned(mirrors, word):
    """All words that turnings lead to, in order."""
    numbers = numbers_of(mirrors)
    found, ahead = {word}, [word]
    while ahead:
        for other in plain_turnings(numbers, ahead.pop()) - found:
            found.add(other)
            ahead.append(other)
    return sorted(found)


def place_of_mix(one, other, word):
    """The place of a mix of two words among all such mixes; each letter of the one is less than all of the other."""
    place, first, rest = 0, len(one), len(other)
    for x in word:
        if x in one:
            first -= 1
        else:
            # All the mixes that go on with the one instead.
            place += math.comb(first - 1 + rest, rest) if first else 0
            rest -= 1
    return place


def wrong_indexes(many):
    """What is no index of so many words, as `refused` takes it."""
    wrong = [given for given in ANYTHING if type(given) is not int or not 0 <= given < many]
    wrong += [-1, -many, many, many + 1, 10**60 - 1, -(10**60) + 1, "0", (0,), [0], b"0", True, False, None]
    return [(given, InvalidIndex, {"given": given}) for given in wrong]


class InterfaceTest(Case):
    def test_parameters(self):
        module = "braidwords.counting"
        self.is_listed(how_many, module, ["mirrors", "word"])
        self.is_listed(nth_word, module, ["mirrors", "word", "index"])
        self.is_listed(place_of, module, ["mirrors", "word"])

    def test_examples(self):
        three, ring, two = THREE, RING, TWO
        self.assertEqual(
            [how_many(three, "abacba"), nth_word(three, "abacba", 0), nth_word(three, "abacba", 15),
             place_of(three, "cbcabc"), how_many(three, "abab"), how_many(two, "ababab"), how_many(ring, "abcabc")],
            [16, "abacba", "cbcabc", 15, 1, 1, 1])

    def test_arguments_by_name(self):
        self.assertEqual(how_many(word="abacba", mirrors=THREE), 16)
        self.assertEqual(nth_word(index=15, word="abacba", mirrors=THREE), "cbcabc")
        self.assertEqual(place_of(word="cbcabc", mirrors=THREE), 15)


class ShortWordsTest(Case):
    """Against a plain search."""

    def test_all(self):
        for plain in some_plains():
            for word in plain.words:
                words = plain.shortest(word)
                self.same(how_many(plain.mirrors, word), len(words))
                for index in {0, len(words) - 1, len(words) // 2}:
                    self.same(nth_word(plain.mirrors, word, index), words[index])
                self.refuses(InvalidIndex, {"given": len(words)}, nth_word, plain.mirrors, word, len(words))
                if word in words:
                    self.same(place_of(plain.mirrors, word), words.index(word))
                else:
                    self.refuses(NotShortest, {"indexes": struck(plain.mirrors, word)}, place_of, plain.mirrors, word)

    def test_the_empty_word(self):
        for mirrors in some_mirrors():
            for word in ("", "aa"):
                self.same(how_many(mirrors, word), 1)
                self.same(nth_word(mirrors, word, 0), "")
                self.refuses(InvalidIndex, {"given": 1}, nth_word, mirrors, word, 1)
            self.same(place_of(mirrors, ""), 0)


class TurnedTest(Case):
    """All shortest words by turnings alone, where a plain search can list them."""

    def check_all(self, mirrors, word):
        words = all_turned(mirrors, word)
        self.same(how_many(mirrors, word), len(words))
        for index in {0, len(words) - 1, *range(0, len(words), max(1, len(words) // 40))}:
            self.same(nth_word(mirrors, word, index), words[index])
            self.same(place_of(mirrors, words[index]), index)
        for index in (-1, len(words)):
            self.refuses(InvalidIndex, {"given": index}, nth_word, mirrors, word, index)

    def test_longest_words(self):
        for mirrors in (chain(3, 3), chain(4, 3), chain(6), chain(3, 3, 3), all_alike(6, 2), beside("ab ab3", "ab ab6"),
                        beside("abc ab3 bc3", "a"), beside("ab ab3", "ab ab3", "ab"),
                        Mirrors.read("abcd ab3 bc3 bd3")):
            self.check_all(mirrors, longest_word(mirrors))

    def test_known_numbers(self):
        for text, many in [("abc ab3 bc3", 16), ("abc ab4 bc3", 42), ("abcd ab3 bc3 cd3", 768),
                           ("abcd ab3 bc3 bd3", 2316), ("abcd ab4 bc3 cd3", 24024), ("abcdef", 720)]:
            mirrors = Mirrors.read(text)
            self.same(how_many(mirrors, longest_word(mirrors)), many)

    def test_drawn_words(self):
        draw = random.Random(10)
        for mirrors in some_mirrors()[::3]:
            word = first_word(mirrors, drawn_word(draw, mirrors.letters, draw.randint(8, 60)))[:14]
            if how_many(mirrors, word) < 3000:
                self.check_all(mirrors, word)


class ManyTest(Case):
    """Elements with so many shortest words that none can list them."""

    def check_some(self, mirrors, word, many, drawn=5):
        """Indexes all over: words in order, alike, and back at their places."""
        draw = random.Random(many)
        self.same(how_many(mirrors, word), many)
        indexes = sorted({0, many - 1, *(draw.randrange(many) for _ in range(drawn))})
        words = [nth_word(mirrors, word, index) for index in indexes]
        self.assertEqual(words, sorted(set(words)))
        self.same(words[0], first_word(mirrors, word))
        for index, told in zip(indexes, words):
            self.assertTrue(is_alike(mirrors, word, told))
            self.assertEqual(len(told), length(mirrors, word))
            self.same(place_of(mirrors, told), index)
        # Turned about, the shortest words are those of the word turned about.
        self.same(how_many(mirrors, word[::-1]), many)
        for index in (-1, many, many + 1):
            self.refuses(InvalidIndex, {"given": index}, nth_word, mirrors, word, index)

    def test_chains_of_3s(self):
        for size in range(1, 7):
            mirrors = chain(*[3] * (size - 1))
            self.check_some(mirrors, longest_word(mirrors), fillings(*range(size, 0, -1)))
        self.same(fillings(6, 5, 4, 3, 2, 1), 1100742656)

    def test_chains_of_a_4_and_3s(self):
        for size in range(2, 7):
            mirrors = chain(4, *[3] * (size - 2))
            self.check_some(mirrors, longest_word(mirrors), fillings(*[size] * size))

    def test_neighbours_in_one_place(self):
        # Four letters in a chain of 3s that fill rows of boxes.
        self.same(how_many(chain(3, 3, 3), "cdbcab"), fillings(2, 2, 2))
        self.same(how_many(chain(3, 3, 3, 3, 3), "cdefbcdeabcd"), fillings(4, 4, 4))
        self.same(how_many(chain(3, 3, 3, 3, 3), "defcdebcdabc"), fillings(3, 3, 3, 3))

    def test_letters_side_by_side(self):
        self.check_some(all_alike(6, 2), "fcdaeb", 720)
        self.check_some(all_alike(6, 2), "fcd" * 19 + "aeb", 720)
        self.check_some(PAIRS, "ab" * 10 + "cd" * 10 + "ef" * 10, math.factorial(60) // math.factorial(20) ** 3)
        self.check_some(PAIRS, "bdface" * 10, math.factorial(60) // math.factorial(20) ** 3)
        self.check_some(PAIRS, "ab" * 15 + "cd" * 15, math.comb(60, 30))
        self.check_some(beside("abc ab3 ac3 bc3", "abc ab0 ac0 bc0"), "abc" * 10 + "def" * 10, math.comb(60, 30))
        mixed = math.factorial(58) // math.factorial(20) ** 2 // math.factorial(18)
        self.check_some(PAIRS, "ab" * 10 + "cd" * 9 + "ff" + "ef" * 10, mixed)

    def test_places_of_mixes(self):
        draw = random.Random(11)
        mirrors = Mirrors.read("abcd ab0 cd0")
        for _ in range(10):
            one, other = ("ab" * 30)[:draw.randint(0, 30)], ("dc" * 30)[:draw.randint(0, 30)]
            letters = [*one, *other]
            chosen = set(draw.sample(range(len(letters)), len(one)))
            ahead, behind = iter(one), iter(other)
            word = "".join(next(ahead) if k in chosen else next(behind) for k in range(len(letters)))
            self.same(how_many(mirrors, word), math.comb(len(word), len(one)))
            self.same(place_of(mirrors, word), place_of_mix(one, other, word))
            self.same(nth_word(mirrors, one + other, place_of_mix(one, other, word)), word)

    def test_elements_with_very_many_beginnings(self):
        for text, behind in [("abcdef ab3 bc3 cd3 cf3 de3", ""), ("abcd ab3 bc4 cd3", "ef" * 17)]:
            told = Mirrors.read(text)
            mirrors = beside(text, "ab ab0") if behind else told
            word = longest_word(told) + behind
            many = how_many(mirrors, word)
            self.check_some(mirrors, word, many, 1)
            # Together, the words that begin with each letter that some may begin with are all.
            rests = [how_many(mirrors, x + word) for x in mirrors.letters if length(mirrors, x + word) < len(word)]
            self.assertEqual(sum(rests), many)
            self.assertGreater(many, 10**12)

    def test_drawn_words_of_60_letters(self):
        for mirrors in some_mirrors()[::9]:
            for word in drawn_words(mirrors.letters, 1)[-1:]:
                self.check_some(mirrors, word, how_many(mirrors, word))


class ErrorsTest(Case):
    def test_words(self):
        for call in (how_many, place_of):
            for mirrors in (THREE, all_alike(6, 0)):
                letters = mirrors.letters
                self.refused(call, ("mirrors", mirrors, wrong_mirrors()), ("word", letters, wrong_words(letters)))

    def test_indexes(self):
        for mirrors, word, many in [(THREE, "abacba", 16), (THREE, "abab", 1), (TWO, "", 1), (THREE, "ac", 2),
                                    (PAIRS, "abcdef" * 5, math.factorial(30) // math.factorial(10) ** 3)]:
            self.refused(
                nth_word, ("mirrors", mirrors, wrong_mirrors()), ("word", word, wrong_words(mirrors.letters)),
                ("index", many - 1, wrong_indexes(many)))

    def test_place_of_what_is_not_shortest(self):
        for mirrors in some_mirrors()[::3]:
            for word in drawn_words(mirrors.letters, 1):
                if not is_shortest(mirrors, word):
                    self.refuses(NotShortest, {"indexes": struck(mirrors, word)}, place_of, mirrors, word)
                    self.refuses(NotShortest, {"indexes": struck(mirrors, word)}, place_of, word=word, mirrors=mirrors)
        self.refuses(NotShortest, {"indexes": (0, 3)}, place_of, THREE, "abab")
        self.refuses(NotShortest, {"indexes": (58, 59)}, place_of, TWO, "ab" * 29 + "aa")
        self.refuses(InvalidWord, {"given": "a" * 61}, place_of, TWO, "a" * 61)


if __name__ == "__main__":
    unittest.main()
