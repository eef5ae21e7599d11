"""Which elements are beginnings of which: the interface."""

import itertools
import os.path
import random
import unittest

from braidwords.beginnings import common, how_many_beginnings, is_beginning
from braidwords.errors import TooMany
from braidwords.lengths import first_word, is_shortest, length
from braidwords.mirrors import Mirrors
from helper import FINITE, MODELS, Case, all_alike, as_free, as_order, beside, chain, drawn_word, longest_word
from helper import some_mirrors, some_plains, walked, wrong_mirrors, wrong_words

THREE = Mirrors(3, (("a", "b", 3), ("b", "c", 3)))
TWO = Mirrors.read("ab ab0")
PAIRS = Mirrors.read("abcdef ab0 cd0 ef0")


def changed(places):
    """The pairs of places that stand in the wrong order."""
    return {(x, y) for x, y in itertools.combinations(places, 2) if x > y}


def by_turns(pair, many):
    return (pair * 30)[:many]


class InterfaceTest(Case):
    def test_parameters(self):
        for call in (is_beginning, common):
            self.is_listed(call, "braidwords.beginnings", ["mirrors", "one", "other"])
        self.is_listed(how_many_beginnings, "braidwords.beginnings", ["mirrors", "word"])

    def test_examples(self):
        three, two = THREE, TWO
        self.assertEqual(
            [is_beginning(three, "ab", "abcb"), is_beginning(three, "cb", "abcb"), is_beginning(three, "ca", "abcb"),
             is_beginning(two, "", "ab"), common(three, "abc", "bab"), common(three, "abcb", "cac"),
             common(two, "ab", "ba")],
            [True, False, True, True, "ab", "a", ""])
        self.assertEqual(
            [how_many_beginnings(three, "aba"), how_many_beginnings(three, "abc"),
             how_many_beginnings(three, "abacba"), how_many_beginnings(two, "abab")],
            [6, 4, 24, 5])

    def test_arguments_by_name(self):
        self.assertIs(is_beginning(other="abcb", one="ab", mirrors=THREE), True)
        self.assertEqual(common(other="bab", one="abc", mirrors=THREE), "ab")
        self.assertEqual(how_many_beginnings(word="abc", mirrors=THREE), 4)


class ShortWordsTest(Case):
    """Against a plain search through all shortest words."""

    def beginnings_of(self, plain, word):
        """The first words of all beginnings."""
        return {plain.first(told[:k]) for told in plain.shortest(word) for k in range(len(told) + 1)}

    def test_all(self):
        draw = random.Random(27)
        for plain in some_plains():
            mirrors = plain.mirrors
            for one in draw.sample(plain.words, min(60, len(plain.words))):
                told = self.beginnings_of(plain, one)
                self.same(how_many_beginnings(mirrors, one), len(told))
                others = [plain.alike[one][-1], "", *draw.sample(plain.words, min(8, len(plain.words)))]
                for other in [*others, *draw.sample(sorted(told), min(3, len(told)))]:
                    right = self.beginnings_of(plain, other)
                    self.assertIs(is_beginning(mirrors, one, other), plain.first(one) in right)
                    self.assertIs(is_beginning(mirrors, other, one), plain.first(other) in told)
                    both = [word for word in told & right if self.beginnings_of(plain, word) >= told & right]
                    self.assertEqual(len(both), 1)
                    self.same(common(mirrors, one, other), both[0])
                    self.same(common(mirrors, other, one), both[0])

    def test_the_empty_word(self):
        draw = random.Random(28)
        for mirrors in some_mirrors():
            word = drawn_word(draw, mirrors.letters, 60)
            for empty in ("", "aa", walked(draw, mirrors, "", 9)):
                self.assertIs(is_beginning(mirrors, empty, word), True)
                self.assertIs(is_beginning(mirrors, empty, ""), True)
                self.assertIs(is_beginning(mirrors, "a", empty), False)
                self.same((common(mirrors, empty, word), common(mirrors, word, empty)), ("", ""))
                self.same(how_many_beginnings(mirrors, empty), 1)
            for x in mirrors.letters:
                self.same(how_many_beginnings(mirrors, x), 2)


class LongWordsTest(Case):
    def test_words_that_are_alike(self):
        draw = random.Random(29)
        for mirrors in some_mirrors()[::2]:
            word = drawn_word(draw, mirrors.letters, draw.randint(0, 60))
            other = walked(draw, mirrors, word, 20)
            self.same(common(mirrors, word, other), first_word(mirrors, word))
            self.assertIs(is_beginning(mirrors, word, other), True)

    def test_chains_of_3s(self):
        draw = random.Random(30)
        for size in range(1, 7):
            mirrors = chain(*[3] * (size - 1))
            seen = set()
            for _ in range(150):
                one = drawn_word(draw, mirrors.letters, draw.choice((2, 5, 60)))
                other = drawn_word(draw, mirrors.letters, draw.choice((8, 60)))
                if draw.random() < 0.3:
                    other = first_word(mirrors, other)
                    one = walked(draw, mirrors, other[:draw.randint(0, len(other))], 5)
                right = changed(as_order(one)) <= changed(as_order(other))
                seen.add(right)
                self.assertIs(is_beginning(mirrors, one, other), right)
                self.check_common(mirrors, as_order, one, other)
            self.assertEqual(seen, {True, False})

    def check_common(self, mirrors, model, one, other):
        """What is told is a beginning of both, and no letter more behind it gives one."""
        told = common(mirrors, one, other)
        both = changed(model(one)) & changed(model(other))
        self.same(told, first_word(mirrors, told))
        self.assertLessEqual(changed(model(told)), both)
        for x in mirrors.letters:
            self.assertFalse(changed(model(told)) < changed(model(told + x)) <= both)

    def test_lengths_of_what_is_left(self):
        draw = random.Random(31)
        for mirrors, model, length_of in MODELS:
            for _ in range(25):
                other = drawn_word(draw, mirrors.letters, draw.choice((10, 60)))
                one = first_word(mirrors, other)[:draw.randint(0, 60)] if draw.random() < 0.5 else drawn_word(
                    draw, mirrors.letters, draw.randint(0, 12))
                # With a beginning taken away from the front, as many letters less are left.
                left = length_of(model(one[::-1] + other))
                right = left == length_of(model(other)) - length_of(model(one))
                self.assertIs(is_beginning(mirrors, one, other), right)
                told = common(mirrors, one, other)
                self.assertIs(is_beginning(mirrors, told, one), True)
                self.assertIs(is_beginning(mirrors, told, other), True)
                self.assertIs(told == first_word(mirrors, one), right)

    def test_all_numbers_0(self):
        draw = random.Random(32)
        for size in range(2, 7):
            mirrors = all_alike(size, 0)
            for _ in range(40):
                other = drawn_word(draw, mirrors.letters, 60)
                one = as_free(other)[:draw.randint(0, 60)] + drawn_word(draw, mirrors.letters, draw.randint(0, 3))
                one = one[:60]
                self.same(common(mirrors, one, other), os.path.commonprefix([as_free(one), as_free(other)]))
                self.assertIs(is_beginning(mirrors, one, other), as_free(other).startswith(as_free(one)))
                self.same(how_many_beginnings(mirrors, other), len(as_free(other)) + 1)

    def test_letters_side_by_side(self):
        draw = random.Random(33)
        pairs = (("ab", "ba"), ("cd", "dc"), ("ef", "fe"))
        for _ in range(60):
            one, other = [[by_turns(draw.choice(pair), draw.randint(0, 20)) for pair in pairs] for _ in range(2)]
            right = "".join(os.path.commonprefix(told) for told in zip(one, other))
            self.same(common(PAIRS, "".join(one), "".join(other[::-1])), right)
            self.assertIs(is_beginning(PAIRS, "".join(one), "".join(other)), right == "".join(one))

    def test_longest_words(self):
        for text, (many, _) in FINITE.items():
            mirrors = Mirrors.read(text)
            word = longest_word(mirrors)
            told = drawn_word(random.Random(text), mirrors.letters, 60)
            # All elements are beginnings of the longest one.
            self.assertIs(is_beginning(mirrors, told, word), True)
            self.same(common(mirrors, told, word), first_word(mirrors, told))
            if many <= 3000:
                self.same(how_many_beginnings(mirrors, word), many)
            else:
                self.refuses(TooMany, {"most": 3000}, how_many_beginnings, mirrors, word)

    def test_shortest_words_begin_so(self):
        draw = random.Random(34)
        for mirrors in some_mirrors()[::3]:
            word = ""
            for _ in range(60):
                longer = [x for x in mirrors.letters if is_shortest(mirrors, word + x)]
                word += draw.choice(longer) if longer else ""
            for k in (0, 1, len(word) // 2, len(word)):
                self.assertIs(is_beginning(mirrors, word[:k], word), True)
                self.assertEqual(length(mirrors, common(mirrors, word[:k], word)), k)


class TooManyTest(Case):
    def pairs(self, *many):
        return "".join(by_turns(pair, k) for pair, k in zip(("ab", "dc", "fe"), many))

    def test_two_letters_without_an_end(self):
        for k in range(61):
            self.same(how_many_beginnings(TWO, by_turns("ab", k)), k + 1)

    def test_the_greatest_number(self):
        # k letters by turns have k + 1 beginnings; side by side they are multiplied.
        self.same(how_many_beginnings(PAIRS, self.pairs(9, 14, 19)), 3000)
        self.same(how_many_beginnings(PAIRS, self.pairs(19, 9, 14)[::-1]), 3000)
        self.same(how_many_beginnings(PAIRS, self.pairs(9, 14, 19) + "bb" * 9), 3000)
        self.same(how_many_beginnings(PAIRS, self.pairs(12, 22, 9)), 2990)
        self.same(how_many_beginnings(beside("abcd ab3 bc4 cd3", "a"), "e" + longest_word(chain(3, 4, 3))), 2304)

    def test_more(self):
        for word in (self.pairs(10, 12, 20), self.pairs(20, 10, 12), self.pairs(20, 20, 20), self.pairs(6, 10, 38),
                     self.pairs(10, 12, 20) + "aa"):
            self.refuses(TooMany, {"most": 3000}, how_many_beginnings, PAIRS, word)
            self.refuses(TooMany, {"most": 3000}, how_many_beginnings, word=word, mirrors=PAIRS)

    def test_others_know_no_such_limit(self):
        self.assertIs(is_beginning(PAIRS, self.pairs(20, 19, 20), self.pairs(20, 20, 20)), True)
        self.same(common(PAIRS, self.pairs(20, 19, 20), self.pairs(20, 20, 20)), self.pairs(20, 19, 20))


class ErrorsTest(Case):
    def test_errors(self):
        for mirrors in (THREE, all_alike(6, 0)):
            letters = mirrors.letters
            self.refused(
                how_many_beginnings, ("mirrors", mirrors, wrong_mirrors()), ("word", letters, wrong_words(letters)))

    def test_errors_of_two_words(self):
        for call in (is_beginning, common):
            self.refused(
                call, ("mirrors", THREE, wrong_mirrors()), ("one", "ab", wrong_words("abc")),
                ("other", "bab", wrong_words("abc")))


if __name__ == "__main__":
    unittest.main()
