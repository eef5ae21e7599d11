"""Turnings, strikings and ways of them: point [7] and the interface."""

import math
import random
import unittest

from braidwords.counting import how_many
from braidwords.errors import NotAlike, NotShortest, TooMany
from braidwords.lengths import first_word, is_shortest, struck
from braidwords.mirrors import Mirrors
from braidwords.moves import fewest_turnings, path, steps, strikings, turnings
from braidwords.sending import unlike_letter
from helper import ENDLESS, FINITE, MODELS, NUMBERS, Case, Plain, all_alike, beside, chain, drawn_word, drawn_words
from helper import is_one_step, longest_word, numbers_of, plain_strikings, plain_turnings, renamed, small_mirrors
from helper import shortest_word, some_mirrors, walked, words_of, wrong_mirrors, wrong_words

THREE = Mirrors(3, (("a", "b", 3), ("b", "c", 3)))
TWO = Mirrors.read("ab ab0")
PAIRS = Mirrors.read("abcdef ab0 cd0 ef0")

# Elements with just so many shortest words, none listed by a formula.
JUST = [
    (2999, "abcd ad6 bc3 bd3 cd3", "abcdcbdacbdabcdacdabcb"),
    (2999, "abcde ac4 ad3 be0 cd3 de3", "aebdaedacdacebdebde"),
    (3000, "abcdef bc3 bd3 ce4 ef3", "acbdbefece"), (3000, "abcdef ac3 bc3 cd6 ce6 de3 ef3", "abdedfecadecf"),
    (3001, "abcdef ad3 ae4 bd3 ce3 cf3", "eacdefceadbec"), (3001, "abcde ad6 bc4 be3 de3", "bdaebdadaebcbdada"),
    (3002, "abcde ab3 bc3 be3 de3", "aebacbdebacbde"),
]


def plain_fewest(mirrors, word):
    """For each word that turnings lead to the least number of them."""
    numbers = numbers_of(mirrors)
    fewest, ahead = {word: 0}, [word]
    for near in ahead:
        for other in plain_turnings(numbers, near):
            if other not in fewest:
                fewest[other] = fewest[near] + 1
                ahead.append(other)
    return fewest


class InterfaceTest(Case):
    def test_parameters(self):
        for call in (turnings, strikings, steps):
            self.is_listed(call, "braidwords.moves", ["mirrors", "word"])
        for call in (fewest_turnings, path):
            self.is_listed(call, "braidwords.moves", ["mirrors", "one", "other"])

    def test_examples(self):
        three, two = THREE, TWO
        self.assertEqual(
            [turnings(three, "acab"), strikings(three, "abba"), strikings(two, "aaa"), turnings(two, "abab"),
             steps(two, "abba")[0], steps(two, "abba")[-1], steps(three, "cab")[-1]],
            [("aacb", "caab"), ("aa",), ("a",), (), "abba", "", "acb"])
        self.assertEqual(
            [fewest_turnings(three, "aba", "bab"), fewest_turnings(three, "cab", "acb"),
             fewest_turnings(three, "abac", "babc"), path(three, "abab", "ba")[0], path(three, "abab", "ba")[-1]],
            [1, 1, 1, "abab", "ba"])

    def test_arguments_by_name(self):
        self.assertEqual(turnings(word="acab", mirrors=THREE), ("aacb", "caab"))
        self.assertEqual(strikings(word="abba", mirrors=THREE), ("aa",))
        self.assertEqual(steps(word="cab", mirrors=THREE)[-1], "acb")
        self.assertEqual(fewest_turnings(other="bab", one="aba", mirrors=THREE), 1)
        self.assertEqual(path(other="ba", one="abab", mirrors=THREE)[0], "abab")


class TurningsTest(Case):
    def check(self, mirrors, word):
        self.same(turnings(mirrors, word), tuple(sorted(plain_turnings(numbers_of(mirrors), word))))
        self.same(strikings(mirrors, word), tuple(sorted(plain_strikings(word))))

    def test_short_words(self):
        for mirrors in small_mirrors():
            for word in words_of(mirrors.letters, 4):
                self.check(mirrors, word)

    def test_two_letters(self):
        for m in NUMBERS:
            mirrors = all_alike(2, m)
            for word in words_of("ab", 9):
                self.check(mirrors, word)
            self.same(turnings(mirrors, "ababab"[:m]), ("bababa"[:m],) if m else ())
            self.same(turnings(mirrors, "ababab"[:m - 1] if m else "ababab"), ())

    def test_words_of_60_letters(self):
        for mirrors in some_mirrors():
            for word in drawn_words(mirrors.letters, 1)[-1:]:
                self.check(mirrors, word)
        self.assertEqual(len(turnings(all_alike(2, 6), "ab" * 30)), 55)
        self.assertEqual(len(turnings(all_alike(6, 2), "abcdef" * 10)), 59)
        self.same(turnings(TWO, "ab" * 30), ())
        self.same(strikings(TWO, "a" * 60), ("a" * 58,))
        self.assertEqual(len(strikings(TWO, "abba" * 15)), 29)

    def test_the_empty_word_and_letters(self):
        for mirrors in some_mirrors():
            for word in ("", *mirrors.letters):
                self.same(turnings(mirrors, word), ())
                self.same(strikings(mirrors, word), ())

    def test_each_once(self):
        self.same(strikings(TWO, "aaaaa"), ("aaa",))
        self.same(strikings(TWO, "aabaa"), ("aab", "baa"))
        self.same(strikings(TWO, "bbabb"), ("abb", "bba"))
        self.same(turnings(all_alike(2, 2), "abab"), ("aabb", "abba", "baab"))
        self.same(turnings(all_alike(3, 3), "abacaba"), ("abacbab", "abcacba", "babcaba"))


class WaysTest(Case):
    def check_steps(self, mirrors, word, first):
        numbers = numbers_of(mirrors)
        told = steps(mirrors, word)
        self.assertIs(type(told), tuple)
        self.same((told[0], told[-1]), (word, first))
        for one, other in zip(told, told[1:]):
            self.assertTrue(other in plain_turnings(numbers, one) or other in plain_strikings(one), (one, other))
        self.assertLessEqual(max(map(len, told)), 60)

    def check_path(self, mirrors, one, other):
        numbers = numbers_of(mirrors)
        told = path(mirrors, one, other)
        self.assertIs(type(told), tuple)
        self.same((told[0], told[-1]), (one, other))
        for before, behind in zip(told, told[1:]):
            self.assertTrue(is_one_step(numbers, before, behind), (before, behind))
        self.assertLessEqual(max(map(len, told)), 60)

    def test_short_words(self):
        draw = random.Random(12)
        for at, mirrors in enumerate(small_mirrors()):
            plain = Plain(mirrors, 4 if at % 10 else 6)
            for word in plain.words:
                self.check_steps(mirrors, word, plain.first(word))
                self.check_path(mirrors, word, draw.choice(plain.alike[word]))

    def test_no_steps(self):
        for mirrors in some_mirrors():
            self.same(steps(mirrors, ""), ("",))
            self.check_path(mirrors, "", "")
            for x in mirrors.letters:
                self.same(steps(mirrors, x), (x,))
                self.check_path(mirrors, x, x)
        self.same(steps(THREE, "abacba"), ("abacba",))

    def test_words_of_60_letters(self):
        draw = random.Random(13)
        for mirrors in [*some_mirrors()[::3], *map(Mirrors.read, ENDLESS)]:
            word = drawn_word(draw, mirrors.letters, 60)
            self.check_steps(mirrors, word, first_word(mirrors, word))
            self.check_path(mirrors, word, walked(draw, mirrors, word, 20))
            self.check_path(mirrors, first_word(mirrors, word), word)

    def test_two_words_of_60_letters(self):
        draw = random.Random(14)
        for mirrors, _, _ in MODELS:
            half = drawn_word(draw, mirrors.letters, 30)
            self.check_path(mirrors, half + half[::-1], half[::-1] + half)
            word = walked(draw, mirrors, drawn_word(draw, mirrors.letters, 56), 20)
            one = word + word[-1:] * (60 - len(word)) if len(word) % 2 == 0 else word
            self.check_path(mirrors, one, walked(draw, mirrors, one, 20))
        self.check_path(all_alike(6, 2), "abcdef" * 10, "fedcba" * 10)
        self.check_path(PAIRS, "abcdef" * 10, "ab" * 10 + "ef" * 10 + "cd" * 10)
        self.check_path(TWO, "ab" * 30, "ab" * 30)

    def test_shortest_words_of_60_letters(self):
        draw = random.Random(15)
        for text in ENDLESS:
            mirrors = Mirrors.read(text)
            word = shortest_word(draw, mirrors)
            self.check_steps(mirrors, word, first_word(mirrors, word))
            self.check_steps(mirrors, word[::-1], first_word(mirrors, word[::-1]))

    def test_longest_words(self):
        draw = random.Random(16)
        for text in FINITE:
            size = len(text.split(" ")[0])
            mirrors = renamed(text, draw.sample("abcdef"[:size], size))
            word = longest_word(mirrors)
            first = first_word(mirrors, word)
            self.check_steps(mirrors, first[::-1], first)
            self.check_steps(mirrors, word, first)
            self.check_path(mirrors, first, word[::-1])
            twice = (first[::-1] + word)[:60]
            self.check_steps(mirrors, twice, first_word(mirrors, twice))

    def test_not_alike(self):
        draw = random.Random(17)
        for mirrors in some_mirrors()[::2]:
            word = drawn_word(draw, mirrors.letters, draw.randint(0, 60))
            for other in (word[:-1] if word else "a", drawn_word(draw, mirrors.letters, len(word))):
                letter = unlike_letter(mirrors, word, other)
                if letter is not None:
                    for call in (path, fewest_turnings):
                        self.refuses(NotAlike, {"letter": letter}, call, mirrors, word, other)
                        self.refuses(NotAlike, {"letter": letter}, call, other=other, one=word, mirrors=mirrors)
        self.refuses(NotAlike, {"letter": "b"}, path, all_alike(3, 2), "ab", "a")
        self.refuses(NotAlike, {"letter": "c"}, path, all_alike(3, 2), "ac", "a")


class FewestTurningsTest(Case):
    def test_short_words(self):
        for at, mirrors in enumerate(small_mirrors()):
            plain = Plain(mirrors, 4 if at % 10 else 6)
            for word in plain.words:
                words = plain.shortest(word)
                if word == words[0] and len(words) > 1:
                    fewest = plain_fewest(mirrors, word)
                    for other in words:
                        self.same(fewest_turnings(mirrors, word, other), fewest[other])
                        self.same(fewest_turnings(mirrors, other, word), fewest[other])

    def test_the_same_word(self):
        draw = random.Random(18)
        for mirrors in some_mirrors()[::3]:
            word = first_word(mirrors, drawn_word(draw, mirrors.letters, 60))
            if how_many(mirrors, word) <= 3000:
                self.same(fewest_turnings(mirrors, word, word), 0)
            self.same(fewest_turnings(mirrors, "", ""), 0)
        self.same(fewest_turnings(TWO, "ab" * 30, "ab" * 30), 0)

    def test_longest_words(self):
        draw = random.Random(19)
        for mirrors in (chain(3, 3, 3), chain(4, 3), all_alike(6, 2), Mirrors.read("abcd ab3 bc3 bd3"),
                        beside("ab ab6", "ab ab4")):
            word = longest_word(mirrors)
            fewest = plain_fewest(mirrors, word)
            for other in [max(fewest), min(fewest), *draw.sample(sorted(fewest), 5)]:
                self.same(fewest_turnings(mirrors, word, other), fewest[other])

    def test_mixes_of_two_words(self):
        # Each turning changes one letter of the one with one of the other.
        mirrors = Mirrors.read("abcd ab0 cd0")
        for one, other in [("ab" * 12, "dcd"), ("b", "cd" * 29), ("ba" * 20, "dc"), ("abababa", "cdcdc")]:
            self.assertLessEqual(math.comb(len(one + other), len(one)), 3000)
            self.same(fewest_turnings(mirrors, one + other, other + one), len(one) * len(other))

    def test_the_number_of_shortest_words(self):
        for many, text, word in JUST:
            mirrors = Mirrors.read(text)
            fewest = plain_fewest(mirrors, word)
            self.assertEqual(len(fewest), many)
            for other in (word, min(fewest), max(fewest)):
                if many > 3000:
                    self.refuses(TooMany, {"most": 3000}, fewest_turnings, mirrors, word, other)
                    self.refuses(TooMany, {"most": 3000}, fewest_turnings, other=other, one=word, mirrors=mirrors)
                else:
                    self.same(fewest_turnings(mirrors, word, other), fewest[other])
        mirrors = Mirrors.read("abcd ab0 cd0")
        self.same(fewest_turnings(mirrors, "ab" * 12 + "cdc", "cdc" + "ab" * 12), 72)
        for one, other in [("ab" * 4, "cdcdcd"), ("ab" * 15, "cd" * 15), ("ab" * 5, "cdcdc")]:
            self.assertGreater(math.comb(len(one + other), len(one)), 3000)
            self.refuses(TooMany, {"most": 3000}, fewest_turnings, mirrors, one + other, other + one)
            self.refuses(TooMany, {"most": 3000}, fewest_turnings, mirrors, one + other, one + other)

    def test_too_many_by_far(self):
        for mirrors, word in [(PAIRS, "abcdef" * 10), (chain(3, 3, 3, 3, 3), "abacbadcbaedcbafedcba")]:
            self.refuses(TooMany, {"most": 3000}, fewest_turnings, mirrors, word, first_word(mirrors, word))

    def test_errors_at_the_end_in_their_order(self):
        mirrors = PAIRS
        much = "abcdef" * 5
        # Unlike words that are not shortest.
        self.refuses(NotAlike, {"letter": "a"}, fewest_turnings, mirrors, "aab", "acc")
        self.refuses(NotAlike, {"letter": "a"}, fewest_turnings, mirrors, much + "aa", much + "a")
        # The one, then the other, then their number.
        self.refuses(NotShortest, {"indexes": (30, 31)}, fewest_turnings, mirrors, much + "aa", "cc" + much)
        self.refuses(NotShortest, {"indexes": (0, 1)}, fewest_turnings, mirrors, much, "cc" + much)
        self.refuses(NotShortest, {"indexes": (30, 31)}, fewest_turnings, mirrors, much + "aa", much)
        self.refuses(TooMany, {"most": 3000}, fewest_turnings, mirrors, much, much)
        self.refuses(NotShortest, {"indexes": (0, 3)}, fewest_turnings, THREE, "abab", "ba")
        self.refuses(NotShortest, {"indexes": (0, 3)}, fewest_turnings, THREE, "ba", "abab")
        self.refuses(NotShortest, {"indexes": (0, 3)}, fewest_turnings, THREE, "abab", "abab")

    def test_what_is_not_shortest(self):
        draw = random.Random(20)
        for mirrors in some_mirrors()[::3]:
            word = drawn_word(draw, mirrors.letters, 60)
            first = first_word(mirrors, word)
            if word != first and not is_shortest(mirrors, word):
                told = {"indexes": struck(mirrors, word)}
                for one, other in [(word, first), (first, word), (word, word)]:
                    self.refuses(NotShortest, told, fewest_turnings, mirrors, one, other)


class ErrorsTest(Case):
    def test_errors(self):
        for call in (turnings, strikings, steps):
            for mirrors in (THREE, all_alike(6, 0)):
                letters = mirrors.letters
                self.refused(call, ("mirrors", mirrors, wrong_mirrors()), ("word", letters, wrong_words(letters)))

    def test_errors_of_two_words(self):
        for call in (fewest_turnings, path):
            # What is not alike and not shortest comes behind all that is wrong by itself.
            for one, other in [("aba", "bab"), ("aa", "b")]:
                self.refused(
                    call, ("mirrors", THREE, wrong_mirrors()), ("one", one, wrong_words("abc")),
                    ("other", other, wrong_words("abc")))


if __name__ == "__main__":
    unittest.main()
