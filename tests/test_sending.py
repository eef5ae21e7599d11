"""What words send rows to: points [7] to [9] and the interface."""

import itertools
import math
import random
import unittest

from braidwords.errors import InvalidRow
from braidwords.mirrors import Mirrors
from braidwords.sending import is_alike, order_of, rows_of, send, turned_rows, unlike_letter
from helper import ALL, ANYTHING, MODELS, NUMBERS, Case, Plain, all_alike, as_free, as_order, as_ring, as_signed
from helper import chain, drawn_word, drawn_words, numbers_of, small_mirrors, some_mirrors, walked, words_of
from helper import wrong_mirrors, wrong_words

LESS = {2: 0, 3: 1, 4: 1, 6: 1, 0: 2}
MORE = {2: 0, 3: 1, 4: 2, 6: 3, 0: 2}

THREE = Mirrors(3, (("a", "b", 3), ("b", "c", 3)))
TWO = Mirrors.read("ab ab0")


def plain_send(mirrors, word, row):
    """What point [8] says, word for word."""
    numbers = numbers_of(mirrors)
    letters = mirrors.letters
    row = dict(zip(letters, row))
    for x in word[::-1]:
        told = sum((LESS if x < y else MORE)[numbers[x, y]] * row[y] for y in letters if y != x)
        row = {**row, x: told - row[x]}
    return tuple(row.values())


def singles(mirrors):
    return [tuple(int(x == y) for y in mirrors.letters) for x in mirrors.letters]


def is_above(row):
    return min(row) >= 0


def is_below(row):
    return max(row) <= 0


def wrong_rows(size):
    """What is no row of so many numbers, as `refused` takes it."""
    right = (5, -(10**59), 0, 7, 1, 2)[:size]
    wrong = [(given, None) for given in ANYTHING if not isinstance(given, tuple)]
    wrong += [(list(right), None), (right[1:], None), (right + (1,), None), ((), None), (right * 10, None)]
    wrong += [((None,) * (size - 1), None), ((True,) * (size + 1), None), (str(10**(size - 1)), None)]
    for at in range(size):
        for value in ANYTHING:
            if type(value) is not int:
                wrong.append((right[:at] + (value,) + right[at + 1:], at))
                wrong.append((right[:at] + (value,) * (size - at), at))
        wrong.append((right[:at] + (right,) + right[at + 1:], at))
    return [(given, InvalidRow, {"index": index}) for given, index in wrong]


class InterfaceTest(Case):
    def test_parameters(self):
        module = "braidwords.sending"
        self.is_listed(send, module, ["mirrors", "word", "row"])
        self.is_listed(rows_of, module, ["mirrors", "word"])
        self.is_listed(is_alike, module, ["mirrors", "one", "other"])
        self.is_listed(unlike_letter, module, ["mirrors", "one", "other"])
        self.is_listed(turned_rows, module, ["mirrors", "word"])
        self.is_listed(order_of, module, ["mirrors", "word"])

    def test_examples(self):
        three, two = THREE, TWO
        self.assertEqual(
            [send(three, "ab", (1, 0, 0)), rows_of(two, "ab"), is_alike(three, "aba", "bab"),
             is_alike(two, "aba", "bab"), unlike_letter(two, "aba", "bab"), unlike_letter(three, "ac", "ca")],
            [(0, 1, 0), ((3, 2), (-2, -1)), True, False, "a", None])
        self.assertEqual(
            [turned_rows(three, "ab"), turned_rows(three, ""), order_of(three, "ab"), order_of(three, "abc"),
             order_of(two, "ab"), order_of(two, "aba"), order_of(two, "")],
            [((0, 1, 0), (1, 1, 0)), (), 3, 4, None, 2, 1])

    def test_arguments_by_name(self):
        self.assertEqual(send(row=(1, 0, 0), word="ab", mirrors=THREE), (0, 1, 0))
        self.assertEqual(rows_of(word="ab", mirrors=TWO), ((3, 2), (-2, -1)))
        self.assertIs(is_alike(other="bab", one="aba", mirrors=THREE), True)
        self.assertEqual(unlike_letter(other="bab", one="aba", mirrors=TWO), "a")
        self.assertEqual(turned_rows(word="ab", mirrors=THREE), ((0, 1, 0), (1, 1, 0)))
        self.assertEqual(order_of(word="ab", mirrors=THREE), 3)


class SendTest(Case):
    def rows(self, mirrors):
        """Single rows, a row of noughts, small ones, and ones with numbers of up to 60 digits."""
        draw = random.Random(mirrors.text)
        rows = [*singles(mirrors), (0,) * mirrors.size, tuple(range(-2, mirrors.size - 2)), (-1,) * mirrors.size]
        return rows + [tuple(draw.randint(-10**60 + 1, 10**60 - 1) for _ in mirrors.letters) for _ in range(2)]

    def test_the_empty_word(self):
        for mirrors in some_mirrors():
            for row in self.rows(mirrors):
                self.same(send(mirrors, "", row), row)

    def test_letters(self):
        for mirrors in some_mirrors():
            for x in mirrors.letters:
                for row in self.rows(mirrors):
                    self.same(send(mirrors, x, row), plain_send(mirrors, x, row))

    def test_each_number(self):
        for m in NUMBERS:
            mirrors = all_alike(2, m)
            self.same(send(mirrors, "a", (10, 100)), (LESS[m] * 100 - 10, 100))
            self.same(send(mirrors, "b", (10, 100)), (10, MORE[m] * 10 - 100))

    def test_words_the_last_letter_first(self):
        for mirrors in some_mirrors():
            for word in drawn_words(mirrors.letters, 2)[1:12:2]:
                for row in self.rows(mirrors)[::3]:
                    told = send(mirrors, word, row)
                    self.same(told, plain_send(mirrors, word, row))
                    self.same(told, send(mirrors, word[:3], send(mirrors, word[3:], row)))

    def test_words_of_60_letters(self):
        for mirrors in some_mirrors()[::4]:
            for word in drawn_words(mirrors.letters, 3)[-3:]:
                for row in self.rows(mirrors):
                    told = send(mirrors, word, row)
                    self.same(told, plain_send(mirrors, word, row))
                    # What is returned may be passed on, whatever its size.
                    self.same(send(mirrors, word[::-1], told), row)

    def test_a_word_and_the_word_turned_about_behind_it(self):
        for mirrors in some_mirrors():
            for word in drawn_words(mirrors.letters, 0)[:9:4]:
                back = word[:30] + word[:30][::-1]
                for row in self.rows(mirrors):
                    self.same(send(mirrors, back, row), row)

    def test_errors(self):
        for mirrors in (THREE, Mirrors(1, ()), all_alike(6, 3)):
            letters = mirrors.letters
            self.refused(
                send, ("mirrors", mirrors, wrong_mirrors()), ("word", letters, wrong_words(letters)),
                ("row", (0,) * mirrors.size, wrong_rows(mirrors.size)))


class RowsOfTest(Case):
    def test_single_rows(self):
        for mirrors in some_mirrors():
            for word in ["", *mirrors.letters, *drawn_words(mirrors.letters, 1)[3::6]]:
                told = rows_of(mirrors, word)
                self.same(told, tuple(plain_send(mirrors, word, row) for row in singles(mirrors)))
                for row in told:
                    self.assertIsNot(is_above(row), is_below(row))

    def test_errors(self):
        self.refused(rows_of, ("mirrors", THREE, wrong_mirrors()), ("word", "abc", wrong_words("abc")))


class AlikeTest(Case):
    def test_short_words(self):
        draw = random.Random(1)
        for at, mirrors in enumerate(small_mirrors()):
            plain = Plain(mirrors, 4 if at % 10 else 5)
            for word in plain.words:
                others = [plain.first(word), plain.alike[word][-1], *draw.sample(plain.words, min(4, len(plain.words)))]
                for other in others:
                    right = plain.first(word) == plain.first(other)
                    self.assertIs(is_alike(mirrors, word, other), right)
                    self.assertIs(unlike_letter(mirrors, word, other) is None, right)

    def test_moves_put_in(self):
        draw = random.Random(2)
        for mirrors in some_mirrors()[::3]:
            for word in [*drawn_words(mirrors.letters, 0)[::7], drawn_word(draw, mirrors.letters, 60)]:
                other = walked(draw, mirrors, word, 40)
                self.assertIs(is_alike(mirrors, word, other), True)
                self.assertIs(is_alike(mirrors, other, word), True)
                self.assertIsNone(unlike_letter(mirrors, word, other))
                # One letter more, or less, is never alike: each move leaves the number of letters even or odd.
                k, x = draw.randint(0, len(other) - 1) if other else 0, draw.choice(mirrors.letters)
                more = other[:k] + x + other[k:] if len(other) < 60 else other[:k] + other[k + 1:]
                self.assertIs(is_alike(mirrors, word, more), False)
                self.assertIs(is_alike(mirrors, more, word), False)
                self.assertIn(unlike_letter(mirrors, word, more), list(mirrors.letters))

    def test_long_words(self):
        draw = random.Random(3)
        for mirrors, model, _ in MODELS:
            seen = []
            for word in drawn_words(mirrors.letters, 8):
                k = draw.randint(0, max(0, len(word) - 1))
                for other in (word, word[:k] + word[k:][::-1], word[:k] + word[k + 2:], walked(draw, mirrors, word, 9)):
                    right = model(word) == model(other)
                    seen.append(right)
                    self.assertIs(is_alike(mirrors, word, other), right)
                    self.assertIs(unlike_letter(mirrors, word, other) is None, right)
            self.assertEqual(set(seen), {True, False})

    def test_the_first_unlike_letter(self):
        draw = random.Random(4)
        found = set()
        for mirrors in some_mirrors():
            for _ in range(12):
                one = drawn_word(draw, mirrors.letters, draw.randint(0, 9))
                other = drawn_word(draw, mirrors.letters[-2:], draw.randint(0, 2)) + one
                right = None
                for x, row in zip(mirrors.letters, singles(mirrors)):
                    if plain_send(mirrors, one, row) != plain_send(mirrors, other, row):
                        right = x
                        break
                self.same(unlike_letter(mirrors, one, other), right)
                found.add(right)
        self.assertEqual(found, {None, *ALL})

    def test_errors(self):
        for call in (is_alike, unlike_letter):
            self.refused(
                call, ("mirrors", THREE, wrong_mirrors()), ("one", "ab", wrong_words("abc")),
                ("other", "", wrong_words("abc")))


class TurnedRowsTest(Case):
    def test_short_words(self):
        for mirrors in small_mirrors():
            plain = Plain(mirrors, 4)
            # A root that a word turns over is what a part of its end sends a single row to.
            parts = words_of(mirrors.letters, 3)
            roots = {plain_send(mirrors, part, row) for part in parts for row in singles(mirrors)}
            above = sorted(root for root in roots if is_above(root))
            for word in plain.words:
                right = tuple(root for root in above if is_below(plain_send(mirrors, word, root)))
                self.same(turned_rows(mirrors, word), right)
                self.assertEqual(len(right), plain.length(word))

    def test_long_words(self):
        for mirrors, model, length in MODELS:
            for word in drawn_words(mirrors.letters, 6)[6:]:
                told = turned_rows(mirrors, word)
                self.assertIs(type(told), tuple)
                self.assertEqual(len(told), length(model(word)))
                self.assertEqual(list(told), sorted(set(told)))
                for row in told:
                    self.assertTrue(is_above(row))
                    self.assertTrue(is_below(plain_send(mirrors, word, row)))

    def test_a_word_of_60_letters_that_is_shortest(self):
        told = turned_rows(TWO, "ab" * 30)
        self.same(told, tuple((k, k + 1) for k in range(60)))

    def test_errors(self):
        self.refused(turned_rows, ("mirrors", THREE, wrong_mirrors()), ("word", "abc", wrong_words("abc")))


def times_of(model, word):
    """How many times over a word comes to what the empty word does, None for more than 60 times."""
    for times in range(1, 61):
        if model(word * times) == model(""):
            return times
    return None


class OrderOfTest(Case):
    def test_what_is_alike_to_the_empty_word(self):
        draw = random.Random(5)
        for mirrors in some_mirrors()[::3]:
            for word in ("", "aa", walked(draw, mirrors, "", 30)):
                self.same(order_of(mirrors, word), 1)

    def test_a_letter_and_what_is_like_it(self):
        draw = random.Random(6)
        for mirrors in some_mirrors():
            for x in mirrors.letters:
                self.same(order_of(mirrors, x), 2)
                word = drawn_word(draw, mirrors.letters, draw.randint(0, 29))
                self.same(order_of(mirrors, word + x + word[::-1]), 2)

    def test_two_letters(self):
        draw = random.Random(7)
        for mirrors in some_mirrors():
            for (x, y), m in numbers_of(mirrors).items():
                word = drawn_word(draw, mirrors.letters, draw.randint(0, 29))
                self.same(order_of(mirrors, x + y), m or None)
                self.same(order_of(mirrors, word + x + y + word[::-1]), m or None)

    def test_known_mirrors(self):
        for mirrors, model, _ in MODELS:
            for word in drawn_words(mirrors.letters, 4):
                self.same(order_of(mirrors, word), times_of(model, word))

    def test_all_orders_of_chains(self):
        for mirrors, model in [(chain(3, 3, 3), as_order), (chain(4, 3, 3), as_signed)]:
            seen = {}
            for word in words_of(mirrors.letters, 5):
                told = order_of(mirrors, word)
                self.same(told, times_of(model, word))
                seen[told] = True
            self.assertLessEqual(6, len(seen) + (mirrors.angles[0][2] == 3))

    def test_the_greatest_number_of_times(self):
        self.same(order_of(Mirrors.read("abcdef ab3 bc3 cd3 ef6"), "abcdef"), 30)
        self.same(order_of(Mirrors.read("abcdef ab3 bc3 cd3 ef4"), "abcdef"), 20)
        self.same(order_of(Mirrors.read("abcdef ab4 bc3 de6"), "abcde"), 6)
        self.same(order_of(chain(3, 3, 3, 3, 3), "abcdef"), 7)
        self.same(order_of(chain(4, 3, 3, 3, 3), "abcdef"), 12)
        self.same(order_of(Mirrors.read("abcdef ab3 bc3 cd3 cf3 de3"), "abcdef"), 12)
        self.same(order_of(Mirrors.read("abcd ab3 bc4 cd3"), "abcd"), 12)

    def test_no_number_of_times(self):
        for text, word in [
            ("abc ab3 ac3 bc3", "abc"), ("abc ab4 bc4", "abc"), ("abc ab6 bc3", "abc"), ("ab ab0", "ab" * 30),
            ("abcdef ab0", "abcdef"), ("abc ab0 ac0 bc0", "abcabc"), ("abcd ab3 ad3 bc3 cd3", "abcd"),
            ("abcde ab4 bc3 cd3 de4", "abcde" * 12), ("abcdef ab3 bc3 cd3 de3 ef6", "abcdef" * 10),
        ]:
            self.assertIsNone(order_of(Mirrors.read(text), word))

    def test_letters_side_by_side(self):
        for text, pairs in [("abcdef ab3 cd4 ef6", (3, 4, 6)), ("abcdef ab4 cd4 ef3", (4, 4, 3))]:
            mirrors = Mirrors.read(text)
            for many in itertools.product((0, 1, 2), repeat=3):
                word = "".join(pair[:k] for pair, k in zip(("ab", "cd", "ef"), many))
                right = math.lcm(*[(1, 2, m)[k] for m, k in zip(pairs, many)])
                self.same(order_of(mirrors, word), right)

    def test_errors(self):
        self.refused(order_of, ("mirrors", THREE, wrong_mirrors()), ("word", "abc", wrong_words("abc")))


class AgainTest(Case):
    def test_equal_calls_give_equal_results(self):
        for mirrors, word in [(THREE, "abcab"), (TWO, "ab" * 30), (all_alike(6, 4), "abcdef" * 10)]:
            row = tuple(range(mirrors.size))
            for call in (rows_of, turned_rows, order_of):
                self.same(call(mirrors, word), call(Mirrors.read(mirrors.text), word))
            self.same(send(mirrors, word, row), send(mirrors, word, row))
            self.assertEqual(row, tuple(range(mirrors.size)))

    def test_the_ways_to_know_tell_what_is_alike(self):
        for text, model in [("abc ab3 bc3", as_order), ("abc ab4 bc3", as_signed), ("abc ab0 ac0 bc0", as_free),
                            ("abc ab3 ac3 bc3", lambda word: as_ring(3, word))]:
            plain = Plain(Mirrors.read(text), 6)
            told = {}
            for word in plain.words:
                self.assertEqual(told.setdefault(model(word), plain.first(word)), plain.first(word))
            self.assertEqual(len(told), len(set(map(plain.first, plain.words))))


if __name__ == "__main__":
    unittest.main()
