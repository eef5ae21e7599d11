"""Lengths, shortest words, what can be struck: points [7] and [9] and the interface."""

import itertools
import random
import unittest

from braidwords.errors import InvalidWord
from braidwords.lengths import first_word, is_shortest, left_shorteners, length, shorteners, struck
from braidwords.mirrors import Mirrors
from helper import ENDLESS, FINITE, MODELS, Case, all_alike, as_free, drawn_words, longest_word, renamed, some_mirrors
from helper import some_plains, walked, wrong_mirrors, wrong_words

THREE = Mirrors(3, (("a", "b", 3), ("b", "c", 3)))
RING = Mirrors.read("abc ab3 ac3 bc3")
TWO = Mirrors.read("ab ab0")

CALLS = (length, is_shortest, first_word, struck, shorteners, left_shorteners)


def plain_struck(word, comes_to):
    """The first pair of indexes of letters without which the word comes to the same."""
    for i, j in itertools.combinations(range(len(word)), 2):
        if comes_to(word[:i] + word[i + 1:j] + word[j + 1:]) == comes_to(word):
            return (i, j)
    return None


class InterfaceTest(Case):
    def test_parameters(self):
        for call in CALLS:
            self.is_listed(call, "braidwords.lengths", ["mirrors", "word"])

    def test_examples(self):
        three, ring, two = THREE, RING, TWO
        self.assertEqual(
            [length(three, "abab"), first_word(three, "abab"), struck(three, "abab"), is_shortest(three, "abcab"),
             struck(three, "aba"), struck(two, "abba")],
            [2, "ba", (0, 3), True, None, (0, 3)])
        self.assertEqual(
            [shorteners(three, "aba"), left_shorteners(three, "abc"), shorteners(three, ""),
             first_word(three, "cbacba"), length(ring, "abcabc")],
            ["ab", "a", "", "bacb", 6])

    def test_arguments_by_name(self):
        told = [call(word="abab", mirrors=THREE) for call in CALLS]
        self.assertEqual(told, [2, False, "ba", (0, 3), "a", "b"])


class ShortWordsTest(Case):
    """Against a plain search through all words of a few letters more."""

    def test_lengths(self):
        for plain in some_plains():
            for word in plain.words:
                self.same(length(plain.mirrors, word), plain.length(word))
                self.assertIs(is_shortest(plain.mirrors, word), plain.length(word) == len(word))
                self.same(first_word(plain.mirrors, word), plain.first(word))

    def test_struck(self):
        for plain in some_plains():
            for word in plain.words:
                self.same(struck(plain.mirrors, word), plain_struck(word, plain.first))

    def test_shorteners(self):
        for plain in some_plains():
            for word in [word for word in plain.words if len(word) < len(plain.words[-1])]:
                behind = [x for x in plain.mirrors.letters if plain.length(word + x) < plain.length(word)]
                ahead = [x for x in plain.mirrors.letters if plain.length(x + word) < plain.length(word)]
                self.same(shorteners(plain.mirrors, word), "".join(behind))
                self.same(left_shorteners(plain.mirrors, word), "".join(ahead))


class LongWordsTest(Case):
    """Against other ways to know the elements of some mirrors, for words of up to 60 letters."""

    def test_lengths(self):
        for mirrors, model, length_of in MODELS:
            for word in drawn_words(mirrors.letters, 8):
                right = length_of(model(word))
                self.same(length(mirrors, word), right)
                self.assertIs(is_shortest(mirrors, word), right == len(word))

    def test_first_words(self):
        for mirrors, model, length_of in MODELS:
            for word in drawn_words(mirrors.letters, 3)[6:]:
                left, right = word, ""
                while length_of(model(left)):
                    # The least letter that is struck again if it is put ahead once more.
                    letter = next(x for x in mirrors.letters if length_of(model(x + left)) < length_of(model(left)))
                    left, right = letter + left, right + letter
                self.same(first_word(mirrors, word), right)

    def test_struck(self):
        for mirrors, model, _ in MODELS:
            for word in drawn_words(mirrors.letters, 2)[4:]:
                self.same(struck(mirrors, word), plain_struck(word, model))

    def test_struck_late(self):
        # The first pair of so long words stands far behind.
        self.same(struck(TWO, "ab" * 29 + "aa"), (58, 59))
        self.same(struck(TWO, "ab" * 20 + "ba" * 10), (20, 59))
        self.same(struck(TWO, "ab" * 15 + "ba" * 15), (0, 59))
        self.same(struck(RING, "abc" * 19 + "abb"), (58, 59))
        self.same(struck(RING, "bc" + "abc" * 18 + "abac"), None)
        self.same(struck(all_alike(6, 0), "abcdef" * 9 + "abccba"), (54, 59))
        self.same(struck(all_alike(6, 2), "abcdef" * 10), (0, 6))
        self.same(struck(all_alike(6, 2), "abcdef"), None)

    def test_shorteners(self):
        for mirrors, model, length_of in MODELS:
            for word in drawn_words(mirrors.letters, 3)[3:]:
                # Words of 60 letters, too, although 61 letters are no word.
                many = length_of(model(word))
                behind = [x for x in mirrors.letters if length_of(model(word + x)) < many]
                ahead = [x for x in mirrors.letters if length_of(model(x + word)) < many]
                self.same(shorteners(mirrors, word), "".join(behind))
                self.same(left_shorteners(mirrors, word), "".join(ahead))

    def test_shortest_words_of_60_letters(self):
        for mirrors, word in [(TWO, "ab" * 30), (RING, "abc" * 20), (all_alike(6, 0), "abcdef" * 10),
                              (all_alike(6, 3), "abcdef" * 10), (Mirrors.read("abcdef ab0 cd0 ef0"), "bdface" * 10)]:
            self.same(length(mirrors, word), 60)
            self.assertIs(is_shortest(mirrors, word), True)
            self.assertIsNone(struck(mirrors, word))
        self.same(first_word(Mirrors.read("abcdef ab0 cd0 ef0"), "bdface" * 10), "ba" * 10 + "dc" * 10 + "fe" * 10)

    def test_words_that_are_alike(self):
        draw = random.Random(8)
        for mirrors in some_mirrors()[::3]:
            for word in drawn_words(mirrors.letters, 2)[6::3]:
                other = walked(draw, mirrors, word, 30)
                for call in (length, first_word, shorteners, left_shorteners):
                    self.same(call(mirrors, word), call(mirrors, other))

    def test_shorteners_of_the_word_turned_about(self):
        for mirrors in some_mirrors()[::3]:
            for word in drawn_words(mirrors.letters, 2):
                self.same(shorteners(mirrors, word), left_shorteners(mirrors, word[::-1]))
                self.same(length(mirrors, word), length(mirrors, word[::-1]))


class LongestTest(Case):
    def test_finite_mirrors(self):
        draw = random.Random(9)
        for text, (_, many) in FINITE.items():
            for turn in range(3):
                size = len(text.split(" ")[0])
                mirrors = renamed(text, draw.sample("abcdef"[:size], size) if turn else "abcdef")
                word = longest_word(mirrors)
                self.assertEqual(len(word), many)
                self.same(length(mirrors, word), many)
                self.assertIsNone(struck(mirrors, word))
                self.same(left_shorteners(mirrors, word), mirrors.letters)
                for x in mirrors.letters:
                    self.same(length(mirrors, word + x), many - 1)
                    self.same(struck(mirrors, word + x)[1], many)
                    self.same(struck(mirrors, x + word)[0], 0)
                # All that is put ahead takes as much of the longest one away as its own length is.
                for other in drawn_words(mirrors.letters, 0)[:7]:
                    self.same(length(mirrors, other + word), many - length(mirrors, other))
                self.same(first_word(mirrors, word), first_word(mirrors, word[::-1]))

    def test_the_first_of_the_longest(self):
        for text, right in [("a", "a"), ("ab", "ab"), ("ab ab3", "aba"), ("ab ab4", "abab"), ("ab ab6", "ababab"),
                            ("abc ab3 bc3", "abacba"), ("abcdef", "abcdef"), ("abcd ab3 cd4", "abacdcd")]:
            mirrors = Mirrors.read(text)
            self.same(first_word(mirrors, longest_word(mirrors)), right)

    def test_no_word_is_longest_without_an_end(self):
        for text in ENDLESS:
            mirrors = Mirrors.read(text)
            word = ""
            while len(word) < 60:
                self.assertNotEqual(shorteners(mirrors, word), mirrors.letters)
                word += max(set(mirrors.letters) - set(shorteners(mirrors, word)))
                self.same(length(mirrors, word), len(word))


class FreeTest(Case):
    def test_all_numbers_0(self):
        for size in range(1, 7):
            mirrors = all_alike(size, 0)
            for word in drawn_words(mirrors.letters, 10):
                self.same(first_word(mirrors, word), as_free(word))
                self.same(shorteners(mirrors, word), as_free(word)[-1:])
                self.same(left_shorteners(mirrors, word), as_free(word)[:1])


class ErrorsTest(Case):
    def test_errors(self):
        for call in CALLS:
            for mirrors in (THREE, Mirrors(1, ()), all_alike(6, 3)):
                letters = mirrors.letters
                self.refused(call, ("mirrors", mirrors, wrong_mirrors()), ("word", letters, wrong_words(letters)))

    def test_words_of_60_and_61_letters(self):
        for call in CALLS:
            call(THREE, "abc" * 20)
            for given in ("abc" * 20 + "a", "a" * 61, "a" * 62, "b" * 8000):
                self.refuses(InvalidWord, {"given": given}, call, THREE, given)


if __name__ == "__main__":
    unittest.main()
