"""Which elements lie under which: point [10] and the interface."""

import random
import unittest

from braidwords.errors import NotShortest, TooMany
from braidwords.lengths import first_word, is_shortest, length, struck
from braidwords.mirrors import Mirrors
from braidwords.sending import is_alike
from braidwords.under import how_many_under, is_under, just_under, part_word
from helper import FINITE, Case, all_alike, as_free, as_order, beside, chain, drawn_word, drawn_words, longest_word
from helper import parts_of, some_mirrors, some_plains, walked, wrong_mirrors, wrong_words

THREE = Mirrors(3, (("a", "b", 3), ("b", "c", 3)))
TWO = Mirrors.read("ab ab0")
PAIRS = Mirrors.read("abcdef ab0 cd0 ef0")


def is_order_under(one, other):
    """For the orders of chains of 3s: in each beginning the ordered places of the one are nowhere greater."""
    return all(x <= y for k in range(7) for x, y in zip(sorted(one[:k]), sorted(other[:k])))


def is_part(one, other):
    """Whether a word is another one with letters left out."""
    letters = iter(other)
    return all(x in letters for x in one)


def by_turns(pair, many):
    return (pair * 30)[:many]


class InterfaceTest(Case):
    def test_parameters(self):
        for call in (is_under, part_word):
            self.is_listed(call, "braidwords.under", ["mirrors", "one", "other"])
        for call in (how_many_under, just_under):
            self.is_listed(call, "braidwords.under", ["mirrors", "word"])

    def test_examples(self):
        three, two = THREE, TWO
        self.assertEqual(
            [is_under(three, "ac", "abc"), is_under(three, "ca", "abc"), is_under(three, "ba", "ab"),
             part_word(three, "ac", "abc"), how_many_under(three, "aba"), how_many_under(three, "abacba"),
             just_under(three, "abc"), how_many_under(two, "abab")],
            [True, True, False, (0, 2), 6, 24, ("ab", "ac", "bc"), 8])

    def test_arguments_by_name(self):
        self.assertIs(is_under(other="ab", one="ba", mirrors=THREE), False)
        self.assertEqual(part_word(other="abc", one="ac", mirrors=THREE), (0, 2))
        self.assertEqual(how_many_under(word="aba", mirrors=THREE), 6)
        self.assertEqual(just_under(word="abc", mirrors=THREE), ("ab", "ac", "bc"))


class PartCase(Case):
    def check_part(self, mirrors, one, other, right):
        """Whether the one lies under the other, and what tells it, if the other is shortest."""
        self.assertIs(is_under(mirrors, one, other), right)
        if not is_shortest(mirrors, other):
            self.refuses(NotShortest, {"indexes": struck(mirrors, other)}, part_word, mirrors, one, other)
        elif right:
            told = part_word(mirrors, one, other)
            self.same(told, tuple(sorted({int(index) for index in told})))
            self.assertTrue(all(0 <= index < len(other) for index in told))
            self.assertTrue(is_alike(mirrors, one, "".join(other[index] for index in told)))
        else:
            self.assertIsNone(part_word(mirrors, one, other))


class ShortWordsTest(PartCase):
    """Against a plain search through all parts of the shortest words."""

    def under_all(self, plain):
        """For each element, by its first word, the first words of all under it."""
        firsts = [word for word in plain.words if plain.first(word) == word]
        return {word: {plain.first(part) for part in parts_of(word)} for word in firsts}

    def test_pairs(self):
        draw = random.Random(23)
        for plain in some_plains():
            under = self.under_all(plain)
            for other in draw.sample(plain.words, min(60, len(plain.words))):
                right = under[plain.first(other)]
                # Each shortest word of the other has such parts.
                for shortest in plain.shortest(other):
                    self.assertEqual({plain.first(part) for part in parts_of(shortest)}, right)
                for one in [other, "", *draw.sample(plain.words, min(8, len(plain.words)))]:
                    self.check_part(plain.mirrors, one, other, plain.first(one) in right)
                for one in sorted(right)[::3]:
                    self.check_part(plain.mirrors, one, draw.choice(plain.shortest(other)), True)

    def test_all_under_a_word(self):
        for plain in some_plains():
            under = self.under_all(plain)
            for word in plain.words[::2]:
                first = plain.first(word)
                self.same(how_many_under(plain.mirrors, word), len(under[first]))
                right = sorted(part for part in under[first] if len(part) == len(first) - 1)
                self.same(just_under(plain.mirrors, word), tuple(right))

    def test_the_empty_word(self):
        for mirrors in some_mirrors():
            for word in ("", "aa"):
                self.same(how_many_under(mirrors, word), 1)
                self.same(just_under(mirrors, word), ())
                self.assertIs(is_under(mirrors, "", word), True)
                for x in mirrors.letters:
                    self.assertIs(is_under(mirrors, word, x), True)
                    self.assertIs(is_under(mirrors, x, word), False)
            self.same(part_word(mirrors, "", ""), ())
            self.assertIsNone(part_word(mirrors, "a", ""))
            self.same(part_word(mirrors, "", "a"), ())
            for x in mirrors.letters:
                self.same((how_many_under(mirrors, x), just_under(mirrors, x)), (2, ("",)))
                self.same(part_word(mirrors, x, x), (0,))


class LongWordsTest(PartCase):
    def test_chains_of_3s(self):
        draw = random.Random(24)
        for size in range(2, 7):
            mirrors = chain(*[3] * (size - 1))
            seen = set()
            for _ in range(150):
                other = drawn_word(draw, mirrors.letters, draw.choice((9, 30, 60)))
                if draw.random() < 0.7:
                    other = first_word(mirrors, other)
                one = drawn_word(draw, mirrors.letters, draw.choice((3, 8, 60)))
                right = is_order_under(as_order(one), as_order(other))
                seen.add(right)
                self.check_part(mirrors, one, other, right)
            self.assertEqual(seen, {True, False})

    def test_all_numbers_0(self):
        draw = random.Random(25)
        for size in range(2, 7):
            mirrors = all_alike(size, 0)
            for _ in range(40):
                other = drawn_word(draw, mirrors.letters, 60)
                one = drawn_word(draw, mirrors.letters, draw.randint(0, 20))
                self.check_part(mirrors, one, other, is_part(as_free(one), as_free(other)))
                self.check_part(mirrors, one, as_free(other), is_part(as_free(one), as_free(other)))

    def test_letters_left_out(self):
        draw = random.Random(26)
        for mirrors in some_mirrors()[::2]:
            other = first_word(mirrors, drawn_word(draw, mirrors.letters, 60))
            one = "".join(x for x in other if draw.random() < 0.6)
            self.check_part(mirrors, one, other, True)
            self.check_part(mirrors, walked(draw, mirrors, one, 10), other, True)
            self.check_part(mirrors, other, other, True)
            self.assertIs(is_under(mirrors, one, walked(draw, mirrors, other, 10)), True)
            self.check_part(mirrors, other, one, is_alike(mirrors, one, other) or is_under(mirrors, other, one))
            if length(mirrors, one) < len(other):
                self.assertIs(is_under(mirrors, other, one), False)

    def test_just_under_words_of_60_letters(self):
        for mirrors in some_mirrors()[::5]:
            for word in drawn_words(mirrors.letters, 1)[-1:]:
                told = just_under(mirrors, word)
                first = first_word(mirrors, word)
                parts = {first_word(mirrors, first[:k] + first[k + 1:]) for k in range(len(first))}
                self.same(told, tuple(sorted(part for part in parts if len(part) == len(first) - 1)))
        self.same(just_under(TWO, "ab" * 30), ("ab" * 29 + "a", "ba" * 29 + "b"))
        self.assertEqual(len(just_under(all_alike(6, 0), "abcdef" * 10)), 60)
        self.same(just_under(all_alike(3, 0), "abac"), ("aba", "abc", "bac"))

    def test_longest_words(self):
        for text, (many, top) in FINITE.items():
            mirrors = Mirrors.read(text)
            word = longest_word(mirrors)
            if many <= 3000:
                # All elements lie under the longest one, and as many just under it as there are letters.
                self.same(how_many_under(mirrors, word), many)
            else:
                self.refuses(TooMany, {"most": 3000}, how_many_under, mirrors, word)
            told = just_under(mirrors, word)
            self.assertEqual(len(told), mirrors.size)
            self.assertEqual([length(mirrors, part) for part in told], [top - 1] * mirrors.size)
            self.check_part(mirrors, drawn_word(random.Random(text), mirrors.letters, 60), word, True)


class TooManyTest(Case):
    def pairs(self, *many):
        return "".join(by_turns(pair, k) for pair, k in zip(("ab", "dc", "fe"), many))

    def test_two_letters_without_an_end(self):
        for k in range(1, 61):
            self.same(how_many_under(TWO, by_turns("ab", k)), 2 * k)

    def test_the_greatest_number(self):
        # Under k letters by turns lie 2 * k elements; side by side they are multiplied.
        self.same(how_many_under(PAIRS, self.pairs(5, 5, 15)), 3000)
        self.same(how_many_under(PAIRS, self.pairs(5, 15, 5)[::-1]), 3000)
        self.same(how_many_under(PAIRS, self.pairs(17, 11, 2)), 2992)
        self.same(how_many_under(PAIRS, self.pairs(5, 5, 15) + "aa" * 17), 3000)
        self.same(how_many_under(beside("abcd ab3 bc4 cd3", "a"), "e" + longest_word(chain(3, 4, 3))), 2304)

    def test_more(self):
        for word in (self.pairs(1, 8, 47), self.pairs(8, 47, 1), self.pairs(4, 4, 24), self.pairs(20, 20, 20),
                     self.pairs(1, 8, 47) + "aa"):
            self.refuses(TooMany, {"most": 3000}, how_many_under, PAIRS, word)
            self.refuses(TooMany, {"most": 3000}, how_many_under, word=word, mirrors=PAIRS)
        for mirrors in (all_alike(6, 0), all_alike(6, 3), Mirrors.read("abc ab3 ac0 bc6")):
            self.refuses(TooMany, {"most": 3000}, how_many_under, mirrors, (mirrors.letters * 20)[:60])

    def test_just_under_knows_no_such_limit(self):
        self.assertEqual(len(just_under(PAIRS, self.pairs(20, 20, 20))), 6)


class ErrorsTest(Case):
    def test_errors(self):
        for call in (how_many_under, just_under):
            for mirrors in (THREE, all_alike(6, 0)):
                letters = mirrors.letters
                self.refused(call, ("mirrors", mirrors, wrong_mirrors()), ("word", letters, wrong_words(letters)))

    def test_errors_of_two_words(self):
        for call in (is_under, part_word):
            self.refused(
                call, ("mirrors", THREE, wrong_mirrors()), ("one", "ab", wrong_words("abc")),
                ("other", "bab", wrong_words("abc")))

    def test_the_other_is_not_shortest(self):
        self.refuses(NotShortest, {"indexes": (0, 3)}, part_word, THREE, "a", "abab")
        self.refuses(NotShortest, {"indexes": (0, 3)}, part_word, THREE, "abcabc", "abab")
        self.refuses(NotShortest, {"indexes": (58, 59)}, part_word, TWO, "", "ab" * 29 + "aa")
        self.refuses(NotShortest, {"indexes": (0, 1)}, part_word, other="aa", one="aa", mirrors=TWO)
        # What is wrong by itself comes first; the one need not be shortest.
        self.refused(
            part_word, ("mirrors", THREE, wrong_mirrors()), ("one", "aab", wrong_words("abc")),
            ("other", "abab", wrong_words("abc")))
        self.same(part_word(THREE, "aab", "ab"), (1,))


if __name__ == "__main__":
    unittest.main()
