"""How many elements there are, in all and of each length: the interface."""

import itertools
import math
import random
import unittest
from fractions import Fraction

from braidwords.elements import is_finite, longest, of_length, order, up_to
from braidwords.errors import InvalidNumber
from braidwords.lengths import first_word, left_shorteners, length, shorteners
from braidwords.mirrors import Mirrors
from braidwords.sending import rows_of, send
from helper import ALL, ANYTHING, ENDLESS, FINITE, NUMBERS, Case, Plain, all_alike, all_angles, anything_but, beside
from helper import longest_word, numbers_of, renamed, small_mirrors, some_mirrors, triples, wrong_mirrors

THREE = Mirrors(3, (("a", "b", 3), ("b", "c", 3)))
RING = Mirrors.read("abc ab3 ac3 bc3")
TWO = Mirrors.read("ab ab0")

# For mirrors in one piece the factors of the number of elements: with them the elements of each length are counted.
FACTORS = {
    "a": (2,), "ab ab3": (2, 3), "ab ab4": (2, 4), "ab ab6": (2, 6), "abc ab3 bc3": (2, 3, 4), "abc ab4 bc3": (2, 4, 6),
    "abcd ab3 bc3 cd3": (2, 3, 4, 5), "abcd ab4 bc3 cd3": (2, 4, 6, 8), "abcd ab3 bc3 bd3": (2, 4, 4, 6),
    "abcd ab3 bc4 cd3": (2, 6, 8, 12), "abcde ab3 bc3 cd3 de3": (2, 3, 4, 5, 6),
    "abcde ab4 bc3 cd3 de3": (2, 4, 6, 8, 10), "abcde ab3 bc3 cd3 ce3": (2, 4, 5, 6, 8),
    "abcdef ab3 bc3 cd3 de3 ef3": (2, 3, 4, 5, 6, 7), "abcdef ab4 bc3 cd3 de3 ef3": (2, 4, 6, 8, 10, 12),
    "abcdef ab3 bc3 cd3 de3 df3": (2, 4, 6, 6, 8, 10), "abcdef ab3 bc3 cd3 cf3 de3": (2, 5, 6, 8, 9, 12),
}

# The same for those that go on in the same way without an end.
FLAT = {
    "ab ab0": (2,), "abc ab3 ac3 bc3": (2, 3), "abc ab4 bc4": (2, 4), "abc ab6 bc3": (2, 6),
    "abcd ab3 ad3 bc3 cd3": (2, 3, 4), "abcd ab4 bc3 cd4": (2, 4, 6), "abcd ab3 bc3 bd4": (2, 4, 6),
    "abcde ab3 ae3 bc3 cd3 de3": (2, 3, 4, 5), "abcde ab4 bc3 cd3 de4": (2, 4, 6, 8),
    "abcde ab4 bc3 cd3 ce3": (2, 4, 6, 8), "abcde ab3 ac3 ad3 ae3": (2, 4, 4, 6),
    "abcde ab3 bc3 cd4 de3": (2, 6, 8, 12),
    "abcdef ab3 af3 bc3 cd3 de3 ef3": (2, 3, 4, 5, 6), "abcdef ab4 bc3 cd3 de3 ef4": (2, 4, 6, 8, 10),
    "abcdef ab4 bc3 cd3 de3 df3": (2, 4, 6, 8, 10), "abcdef ab3 bc3 bd3 de3 df3": (2, 4, 5, 6, 8),
}


def times(one, other):
    """The first 201 numbers of the product of two series."""
    return [sum(one[j] * other[k - j] for j in range(k + 1)) for k in range(201)]


def series(*ones):
    """The first 201 numbers of a series with 1 in these places."""
    return [int(k in ones) for k in range(201)]


def finite_series(factors):
    told = series(0)
    for factor in factors:
        told = times(told, series(*range(factor)))
    return told


def flat_series(factors):
    told = finite_series(factors)
    for factor in factors:
        told = times(told, series(*range(0, 201, factor - 1)))
    return told


def is_forest(mirrors):
    left = {x: [y for y in mirrors.letters if x != y and numbers_of(mirrors)[x, y] != 2] for x in mirrors.letters}
    while left:
        ends = [x for x in left if len(left[x]) <= 1]
        if not ends:
            return False
        left = {x: [y for y in left[x] if y != ends[0]] for x in left if x != ends[0]}
    return True


def is_plainly_finite(mirrors):
    """Whether there is no ring of neighbours, and each part from the first letters on has a volume above 0."""
    if not is_forest(mirrors):
        return False
    numbers = numbers_of(mirrors)
    low, high = {2: 0, 3: 1, 4: 1, 6: 1, 0: 2}, {2: 0, 3: 1, 4: 2, 6: 3, 0: 2}
    table = [[Fraction(2) if x == y else Fraction(-(low if x < y else high)[numbers[x, y]]) for y in mirrors.letters]
             for x in mirrors.letters]
    for k in range(mirrors.size):
        if table[k][k] <= 0:
            return False
        for j in range(k + 1, mirrors.size):
            share = table[j][k] / table[k][k]
            table[j] = [x - share * y for x, y in zip(table[j], table[k])]
    return True


def plain_counts(mirrors, most):
    """How many unlike tables of rows there are, by the least number of letters that make them."""
    level = {rows_of(mirrors, "")}
    seen, counts = set(level), []
    for _ in range(most + 1):
        counts.append(len(level))
        level = {tuple(send(mirrors, x, row) for row in rows) for rows in level for x in mirrors.letters} - seen
        seen |= level
    return counts


def wrong_lengths():
    """What is no length that is counted, as `refused` takes it."""
    wrong = [*anything_but(0, 1, 7), -1, 201, 202, -200, 10**59, "5", "", True, False, None, (5,), [5], b"5"]
    return [(given, InvalidNumber, {"given": given}) for given in wrong]


def drawn_mirrors(many):
    """Mirrors of four to six letters, most of their numbers 2 or 3."""
    draw = random.Random(many)
    return [Mirrors(size, triples(size, draw.choices(NUMBERS, (8, 5, 2, 1, 1), k=15)))
            for size in draw.choices((4, 5, 6), k=many)]


class InterfaceTest(Case):
    def test_parameters(self):
        for call in (is_finite, order, longest):
            self.is_listed(call, "braidwords.elements", ["mirrors"])
        for call in (of_length, up_to):
            self.is_listed(call, "braidwords.elements", ["mirrors", "length"])

    def test_examples(self):
        three, ring, two = THREE, RING, TWO
        self.assertEqual(
            [is_finite(three), is_finite(ring), order(three), order(two), longest(three), longest(ring),
             order(Mirrors.read("ab ab6")), longest(Mirrors.read("ab ab4"))],
            [True, False, 24, None, "abacba", None, 12, "abab"])
        self.assertEqual(
            [of_length(three, 0), of_length(three, 2), of_length(three, 3), of_length(three, 7), of_length(ring, 3),
             of_length(ring, 200), of_length(two, 200), up_to(ring, 3), up_to(three, 200)],
            [1, 5, 6, 0, 9, 600, 2, 19, 24])

    def test_arguments_by_name(self):
        self.assertIs(is_finite(mirrors=THREE), True)
        self.assertEqual(order(mirrors=THREE), 24)
        self.assertEqual(longest(mirrors=THREE), "abacba")
        self.assertEqual(of_length(length=2, mirrors=THREE), 5)
        self.assertEqual(up_to(length=2, mirrors=THREE), 9)


class FiniteTest(Case):
    def check_finite(self, mirrors, many, top):
        self.assertIs(is_finite(mirrors), True)
        self.same(order(mirrors), many)
        self.same(up_to(mirrors, 200), many)
        word = longest(mirrors)
        self.assertIs(type(word), str)
        self.assertEqual(len(word), top)
        self.same(length(mirrors, word), top)
        self.same(first_word(mirrors, word), word)
        self.same((shorteners(mirrors, word), left_shorteners(mirrors, word)), (mirrors.letters,) * 2)

    def test_one_piece(self):
        draw = random.Random(21)
        for text, (many, top) in FINITE.items():
            for turn in range(4):
                size = len(text.split(" ")[0])
                mirrors = renamed(text, draw.sample(ALL[:size], size) if turn else ALL[:size])
                self.check_finite(mirrors, many, top)
                self.same(longest(mirrors), first_word(mirrors, longest_word(mirrors)))

    def test_side_by_side(self):
        for texts in [("a", "a"), ("a",) * 6, ("ab ab3", "ab ab3"), ("ab ab6",) * 3, ("ab ab4", "ab ab6", "a", "a"),
                      ("abc ab3 bc3", "abc ab4 bc3"), ("abcd ab3 bc4 cd3", "ab ab6"), ("abcde ab4 bc3 cd3 de3", "a"),
                      ("a", "abcd ab3 bc3 bd3"), ("a", "abcde ab3 bc3 cd3 ce3")]:
            many = math.prod(FINITE[text][0] for text in texts)
            self.check_finite(beside(*texts), many, sum(FINITE[text][1] for text in texts))

    def test_letters_alone(self):
        for size in range(1, 7):
            mirrors = Mirrors(size, ())
            self.check_finite(mirrors, 2**size, size)
            self.same(longest(mirrors), mirrors.letters)
            for k in range(10):
                self.same(of_length(mirrors, k), math.comb(size, k))

    def test_the_same_numbers_from_both_ends(self):
        for text, (many, top) in FINITE.items():
            mirrors = Mirrors.read(text)
            counts = [of_length(mirrors, k) for k in range(top + 2)]
            self.assertEqual(counts[:-1], counts[-2::-1])
            self.assertEqual((counts[0], counts[1], counts[-1], sum(counts)), (1, mirrors.size, 0, many))
            self.same(of_length(mirrors, 200), 0)

    def test_endless(self):
        draw = random.Random(22)
        for text in ENDLESS:
            for turn in range(3):
                size = len(text.split(" ")[0])
                mirrors = renamed(text, draw.sample(ALL[:size], size) if turn else ALL[:size])
                self.assertIs(is_finite(mirrors), False)
                self.assertIsNone(order(mirrors))
                self.assertIsNone(longest(mirrors))
                self.assertGreater(of_length(mirrors, 200), 0)

    def test_a_finite_piece_beside_an_endless_one(self):
        for texts in [("a", "ab ab0"), ("ab ab0", "abcd ab3 bc4 cd3"), ("abc ab3 bc3", "abc ab4 bc4")]:
            self.assertIs(is_finite(beside(*texts)), False)
            self.assertIsNone(order(beside(*texts)))
            self.assertIsNone(longest(beside(*texts)))

    def test_three_letters(self):
        for angles in all_angles(3):
            mirrors = Mirrors(3, angles)
            told = sorted(numbers_of(mirrors)[pair] for pair in ("ab", "ac", "bc") for pair in [tuple(pair)])
            right = told in ([2, 2, 2], [2, 2, 3], [2, 2, 4], [2, 2, 6], [2, 3, 3], [2, 3, 4])
            self.assertIs(is_finite(mirrors), right)

    def test_four_to_six_letters(self):
        seen = {True: 0, False: 0}
        for mirrors in [*some_mirrors(), *drawn_mirrors(1500)]:
            right = is_plainly_finite(mirrors)
            seen[right] += 1
            self.assertIs(is_finite(mirrors), right)
            self.assertIs(order(mirrors) is not None, right)
            self.assertIs(longest(mirrors) is not None, right)
        self.assertGreater(min(seen.values()), 100)


class CountsTest(Case):
    def check_counts(self, mirrors, counts):
        for k in (*range(12), 35, 36, 37, 38, 60, 61, 100, 199, 200):
            if k < len(counts):
                self.same(of_length(mirrors, k), counts[k])
                self.same(up_to(mirrors, k), sum(counts[:k + 1]))

    def test_short_words(self):
        for at, mirrors in enumerate(small_mirrors()):
            most = 4 if at % 10 else 6
            plain = Plain(mirrors, most)
            firsts = set(map(plain.first, plain.words))
            self.check_counts(mirrors, [sum(1 for word in firsts if len(word) == k) for k in range(most + 1)])

    def test_more_letters(self):
        for mirrors in [*some_mirrors()[-75::9], *drawn_mirrors(15)]:
            self.check_counts(mirrors, plain_counts(mirrors, 10 - mirrors.size))

    def test_finite_mirrors(self):
        self.assertEqual(set(FACTORS), set(FINITE))
        for text, factors in FACTORS.items():
            self.assertEqual((math.prod(factors), sum(factors) - len(factors)), FINITE[text])
            self.check_counts(Mirrors.read(text), finite_series(factors))

    def test_flat_mirrors(self):
        for text, factors in FLAT.items():
            self.check_counts(Mirrors.read(text), flat_series(factors))

    def test_side_by_side(self):
        for one, other in [("a", "ab ab0"), ("abc ab4 bc3", "abc ab3 ac3 bc3"), ("ab ab6", "abcd ab3 bc3 bd4"),
                           ("ab ab0", "abcd ab3 bc4 cd3"), ("abc ab6 bc3", "abc ab4 bc4"), ("ab ab3", "ab ab0")]:
            told = [finite_series(FACTORS[x]) if x in FACTORS else flat_series(FLAT[x]) for x in (one, other)]
            self.check_counts(beside(one, other), times(*told))
        pair = flat_series((2,))
        self.check_counts(beside("ab ab0", "ab ab0", "ab ab0"), times(pair, times(pair, pair)))

    def test_all_numbers_0(self):
        for size in range(1, 7):
            mirrors = all_alike(size, 0)
            counts = [1] + [size * (size - 1)**(k - 1) for k in range(1, 201)]
            self.check_counts(mirrors, counts)

    def test_all_lengths(self):
        for mirrors in (RING, TWO, all_alike(4, 0)):
            counts = [of_length(mirrors, k) for k in range(201)]
            self.assertEqual([up_to(mirrors, k) for k in range(201)], list(itertools.accumulate(counts)))

    def test_pairs_without_turnings_between_them(self):
        # The number is 0 for letters of unlike pairs: a shortest word is a row of shortest words of the pairs.
        angles = tuple((x, y, 3 if x + y in ("ab", "cd", "ef") else 0) for x, y in itertools.combinations(ALL, 2))
        pair = [0, 2, 2, 1] + [0] * 197
        # How many rows end in a word of one pair: ahead of it is nothing, or a row that ends in one of the others.
        ends = [0] * 201
        for k in range(1, 201):
            ends[k] = pair[k] + sum(pair[j] * 2 * ends[k - j] for j in range(1, min(k, 3) + 1))
        self.check_counts(Mirrors(6, angles), [1] + [3 * number for number in ends[1:]])

    def test_equal_calls(self):
        for mirrors in some_mirrors()[::11]:
            self.same(of_length(mirrors, 50), of_length(Mirrors.read(mirrors.text), 50))


class ErrorsTest(Case):
    def test_no_mirrors(self):
        for call in (is_finite, order, longest):
            self.refused(call, ("mirrors", THREE, wrong_mirrors()))

    def test_lengths(self):
        self.assertIn(-1, ANYTHING)
        for call in (of_length, up_to):
            for mirrors in (THREE, TWO):
                self.refused(call, ("mirrors", mirrors, wrong_mirrors()), ("length", 200, wrong_lengths()))


if __name__ == "__main__":
    unittest.main()
