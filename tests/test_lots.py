"""Lots, their parts, and rows that an element turns: points [7] to [10] and the interface."""

import random
import unittest

from braidwords.errors import InvalidRows
from braidwords.lengths import first_word, left_shorteners, length, shorteners
from braidwords.lots import inner, is_part, parted, support, word_of_rows
from braidwords.mirrors import Mirrors
from braidwords.sending import is_alike, turned_rows
from helper import ANYTHING, ENDLESS, FINITE, MODELS, Case, all_alike, as_free, drawn_word, longest_word, lots_of
from helper import shortest_word, some_mirrors, some_plains, walked, wrong_lots, wrong_mirrors, wrong_words

THREE = Mirrors(3, (("a", "b", 3), ("b", "c", 3)))
TWO = Mirrors.read("ab ab0")
PAIRS = Mirrors.read("abcdef ab0 cd0 ef0")


class InterfaceTest(Case):
    def test_parameters(self):
        self.is_listed(parted, "braidwords.lots", ["mirrors", "word", "lot"])
        self.is_listed(inner, "braidwords.lots", ["mirrors", "lot", "word", "rest"])
        self.is_listed(is_part, "braidwords.lots", ["mirrors", "word", "lot"])
        self.is_listed(support, "braidwords.lots", ["mirrors", "word"])
        self.is_listed(word_of_rows, "braidwords.lots", ["mirrors", "rows"])

    def test_examples(self):
        three, two = THREE, TWO
        self.same(
            [parted(three, "cab", "ab"), parted(three, "abacba", "ab"), parted(three, "cab", ""),
             inner(three, "a", "abc", "c"), inner(three, "ab", "abacba", "ab"), is_part(three, "cac", "ab"),
             support(three, "abcb"), support(three, "abab")],
            [("c", "ab"), ("abc", "aba"), ("acb", ""), "b", "c", True, "abc", "ab"])
        self.same(
            [word_of_rows(three, ((1, 1, 0), (0, 1, 0))), word_of_rows(three, ((1, 1, 0),)), word_of_rows(three, ()),
             word_of_rows(two, turned_rows(two, "babab"))],
            ["ab", None, "", "babab"])

    def test_arguments_by_name(self):
        self.same(parted(lot="ab", word="cab", mirrors=THREE), ("c", "ab"))
        self.same(inner(rest="c", word="abc", lot="a", mirrors=THREE), "b")
        self.assertIs(is_part(lot="ab", word="cac", mirrors=THREE), True)
        self.same(support(word="abcb", mirrors=THREE), "abc")
        self.same(word_of_rows(rows=((1, 1, 0), (0, 1, 0)), mirrors=THREE), "ab")


class ShortWordsTest(Case):
    """Against a plain search through all short words."""

    def test_parted(self):
        for plain in some_plains():
            half = max(map(len, plain.words)) // 2
            words = [word for word in plain.words if len(word) <= half]
            firsts = {plain.first(word) for word in words}
            for lot in lots_of(plain.mirrors.letters):
                behind = {plain.first(word) for word in words if set(word) <= set(lot)}
                ahead = [u for u in firsts if all(plain.length(u + x) > len(u) for x in lot)]
                found = {}
                for u in ahead:
                    for p in behind:
                        found.setdefault(plain.first(u + p), []).append((u, p))
                for word in words:
                    # There is just one such pair.
                    self.same([parted(plain.mirrors, word, lot)], found[plain.first(word)])

    def test_inner(self):
        draw = random.Random(40)
        for plain in some_plains():
            lots = lots_of(plain.mirrors.letters)
            words = [word for word in plain.words if len(word) < max(map(len, plain.words))]
            for word in draw.sample(words, min(25, len(words))):
                lot, rest = draw.choice(lots), draw.choice(lots)
                for pair in ((lot, rest), (lot, lot)):
                    self.same(inner(plain.mirrors, pair[0], word, pair[1]), self.plain_inner(plain, word, *pair))

    def plain_inner(self, plain, word, lot, rest):
        most = max(map(len, plain.words))
        found = {plain.first(word)}
        ahead = sorted(found)
        while ahead:
            told = ahead.pop()
            if len(told) < most:
                for other in [x + told for x in lot] + [told + x for x in rest]:
                    if plain.first(other) not in found:
                        found.add(plain.first(other))
                        ahead.append(plain.first(other))
        least = min(map(len, found))
        told, = [x for x in found if len(x) == least]
        return told

    def test_is_part_and_support(self):
        draw = random.Random(41)
        for plain in some_plains():
            for word in draw.sample(plain.words, min(60, len(plain.words))):
                told, = {"".join(sorted(set(x))) for x in plain.shortest(word)}
                self.same(support(plain.mirrors, word), told)
                for lot in lots_of(plain.mirrors.letters):
                    right = any(set(x) <= set(lot) for x in plain.alike[word])
                    self.assertIs(is_part(plain.mirrors, word, lot), right)

    def test_word_of_rows(self):
        draw = random.Random(42)
        for plain in some_plains():
            most = max(map(len, plain.words))
            told = {frozenset(turned_rows(plain.mirrors, word)): word for word in map(plain.first, plain.words)}
            pool = sorted(set().union(*told))
            for rows, word in told.items():
                self.same(word_of_rows(plain.mirrors, tuple(draw.sample(sorted(rows), len(rows)))), word)
            for _ in range(80):
                rows = draw.sample(pool, draw.randint(1, min(most, len(pool))))
                self.same(word_of_rows(plain.mirrors, tuple(rows)), told.get(frozenset(rows)))


class LongWordsTest(Case):
    def check_parted(self, mirrors, word, lot):
        told = parted(mirrors, word, lot)
        self.assertIs(type(told), tuple)
        u, p = told
        self.same((first_word(mirrors, u), first_word(mirrors, p)), (u, p))
        self.assertEqual(len(u) + len(p), length(mirrors, word))
        self.assertIs(is_alike(mirrors, u + p, word), True)
        self.assertLessEqual(set(p), set(lot))
        self.assertFalse(set(shorteners(mirrors, u)) & set(lot))
        return u, p

    def check_inner(self, mirrors, lot, word, rest):
        told = inner(mirrors, lot, word, rest)
        self.same(told, first_word(mirrors, told))
        self.assertFalse(set(left_shorteners(mirrors, told)) & set(lot))
        self.assertFalse(set(shorteners(mirrors, told)) & set(rest))
        return told

    def some_of_60(self, draw):
        for mirrors in [*some_mirrors()[::4], *map(Mirrors.read, ENDLESS), *map(Mirrors.read, FINITE)]:
            for many in (60, draw.randint(5, 59)):
                yield mirrors, drawn_word(draw, mirrors.letters, many)

    def test_parted(self):
        draw = random.Random(43)
        for mirrors, word in self.some_of_60(draw):
            for lot in draw.sample(lots_of(mirrors.letters), 2):
                u, p = self.check_parted(mirrors, word, lot)
                self.same(parted(mirrors, walked(draw, mirrors, word, 10), lot), (u, p))
            self.same(parted(mirrors, word, ""), (first_word(mirrors, word), ""))
            self.same(parted(mirrors, word, mirrors.letters), ("", first_word(mirrors, word)))
            self.same(parted(mirrors, "", mirrors.letters), ("", ""))

    def test_both_parts_are_long(self):
        mirrors = Mirrors.read("abcd ab0 bc0 cd0")
        self.same(parted(mirrors, "ab" * 15 + "cd" * 15, "cd"), ("ab" * 15, "cd" * 15))
        self.same(parted(mirrors, "ab" * 15 + "cd" * 15, "ab"), ("ab" * 15 + "cd" * 15, ""))
        self.same(parted(PAIRS, "abcd" * 15, "ab"), ("cd" * 15, "ab" * 15))
        self.same(parted(TWO, "ab" * 30, "b"), ("ab" * 29 + "a", "b"))

    def test_inner(self):
        draw = random.Random(44)
        for mirrors, word in self.some_of_60(draw):
            lots = lots_of(mirrors.letters)
            lot, rest = draw.choice(lots), draw.choice(lots)
            told = self.check_inner(mirrors, lot, word, rest)
            # Whatever of both lots is put ahead and behind, the shortest one is the same.
            more = "".join(draw.choice(lot) for _ in range(10 if lot else 0))
            less = "".join(draw.choice(rest) for _ in range(10 if rest else 0))
            if len(told) <= 40:
                self.same(inner(mirrors, lot, more + told + less, rest), told)
            self.same(inner(mirrors, lot, told, rest), told)
            self.check_inner(mirrors, lot, word, lot)
            self.same(inner(mirrors, "", word, ""), first_word(mirrors, word))
            self.same(inner(mirrors, mirrors.letters, word, ""), "")
            self.same(inner(mirrors, "", word, mirrors.letters), "")
            self.same(inner(mirrors, "", word, lot), parted(mirrors, word, lot)[0])

    def test_inner_of_free_letters(self):
        draw = random.Random(45)
        for size in range(2, 7):
            mirrors = all_alike(size, 0)
            for _ in range(40):
                lot, rest = draw.choice(lots_of(mirrors.letters)), draw.choice(lots_of(mirrors.letters))
                word = drawn_word(draw, mirrors.letters, 60)
                self.same(inner(mirrors, lot, word, rest), as_free(word).lstrip(lot).rstrip(rest))
        # A letter that both lots could take is taken once.
        self.same(inner(TWO, "a", "aba", "a"), "b")
        self.same(inner(TWO, "a", "a", "a"), "")
        self.same(inner(TWO, "a", "aba", ""), "ba")
        self.same(inner(TWO, "", "aba", "a"), "ab")

    def test_is_part_and_support(self):
        draw = random.Random(46)
        for mirrors, word in self.some_of_60(draw):
            told = support(mirrors, word)
            self.same(told, "".join(sorted(set(first_word(mirrors, word)))))
            for lot in draw.sample(lots_of(mirrors.letters), 2):
                self.assertIs(is_part(mirrors, word, lot), set(told) <= set(lot))
                inside = drawn_word(draw, lot, 30) if lot else ""
                self.assertIs(is_part(mirrors, walked(draw, mirrors, inside, 10), lot), True)
            self.assertIs(is_part(mirrors, word, told), True)
            self.assertIs(is_part(mirrors, word, mirrors.letters), True)
            self.assertIs(is_part(mirrors, word, ""), told == "")
            for x in told:
                self.assertIs(is_part(mirrors, word, told.replace(x, "")), False)
        self.assertIs(is_part(THREE, "cc" * 30, ""), True)
        self.same(support(THREE, "cc" * 30), "")


class RowsTest(Case):
    def test_the_rows_of_words(self):
        draw = random.Random(47)
        for mirrors, model, length_of in MODELS:
            for many in (10, 30, 60):
                word = drawn_word(draw, mirrors.letters, many)
                first = first_word(mirrors, word)
                rows = turned_rows(mirrors, word)
                self.assertEqual(len(rows), length_of(model(word)))
                self.same(word_of_rows(mirrors, rows), first)
                self.same(word_of_rows(mirrors, rows[::-1]), first)
                self.same(word_of_rows(mirrors, tuple(draw.sample(rows, len(rows)))), first)

    def test_others_beside_them(self):
        draw = random.Random(48)
        for mirrors in [*some_mirrors()[::3], *map(Mirrors.read, FINITE)]:
            word = drawn_word(draw, mirrors.letters, draw.randint(1, 59))
            rows = turned_rows(mirrors, word)
            self.same(word_of_rows(mirrors, rows), first_word(mirrors, word))
            # An element with one row less or more is one letter away.
            near = {turned_rows(mirrors, x + word): x + word for x in mirrors.letters}
            for k in range(len(rows)):
                left = rows[:k] + rows[k + 1:]
                right = first_word(mirrors, near[left]) if left in near else None
                self.same(word_of_rows(mirrors, left), right)
            for row in [*turned_rows(mirrors, drawn_word(draw, mirrors.letters, 20)), (7,) * mirrors.size]:
                more = tuple(sorted({*rows, row}))
                if more not in near and row not in rows:
                    self.same(word_of_rows(mirrors, more), None)

    def test_roots_below(self):
        for mirrors in some_mirrors()[::4]:
            for x in mirrors.letters:
                row, = turned_rows(mirrors, x)
                below = tuple(-number for number in row)
                self.same(word_of_rows(mirrors, (row,)), x)
                self.same(word_of_rows(mirrors, (below,)), None)
                self.same(word_of_rows(mirrors, (row, below)), None)
                self.same(word_of_rows(mirrors, (below, row)), None)

    def test_rows_that_are_no_roots(self):
        for rows in [((0, 0, 0),), ((2, 0, 0),), ((1, 0, 0), (2, 0, 0)), ((1, 0, 0), (0, 0, 0)), ((1, 0, 1),),
                     ((10 ** 59, 0, 0),), ((1, 0, 0), (-(10 ** 59), 1, 0)), ((1, -1, 0),), ((0, 1, 0), (1, 0, 0)),
                     ((1, 0, 0), (0, 1, 0), (0, 0, 1)), ((1, 0, 0), (1, 1, 0), (0, 1, 0), (5, 5, 5))]:
            self.same(word_of_rows(THREE, rows), None)
        self.same(word_of_rows(THREE, ((1, 0, 0), (0, 0, 1))), "ac")
        self.same(word_of_rows(THREE, ((1, 0, 0), (1, 1, 0), (0, 1, 0))), "aba")
        # The same with the numbers of other mirrors.
        self.same(word_of_rows(all_alike(3, 2), ((1, 0, 0), (1, 1, 0), (0, 1, 0))), None)
        self.same(word_of_rows(all_alike(3, 2), ((1, 0, 0), (0, 1, 0), (0, 0, 1))), "abc")

    def test_longest_words(self):
        for text in FINITE:
            mirrors = Mirrors.read(text)
            word = longest_word(mirrors)
            rows = turned_rows(mirrors, word)
            self.same(word_of_rows(mirrors, rows), first_word(mirrors, word))
            # Without a single row it is the last letter less.
            for x in mirrors.letters:
                single, = turned_rows(mirrors, x)
                left = tuple(row for row in rows if row != single)
                self.same(word_of_rows(mirrors, left), first_word(mirrors, word + x))

    def test_60_and_61_rows(self):
        for word in ("ab" * 30, "ba" * 30):
            rows = turned_rows(TWO, word)
            self.assertEqual(len(rows), 60)
            self.same(word_of_rows(TWO, rows), word)
            self.same(word_of_rows(TWO, rows[:59]), word[1:])
            self.same(word_of_rows(TWO, rows[1:]), None)
            other, = turned_rows(TWO, word[0])
            self.refuses(InvalidRows, {"index": 60}, word_of_rows, TWO, rows + ((61, 60),))
            self.refuses(InvalidRows, {"index": 60}, word_of_rows, TWO, rows + (rows[0],))
            self.refuses(InvalidRows, {"index": 60}, word_of_rows, TWO, rows + (None, None))
            self.refuses(InvalidRows, {"index": 59}, word_of_rows, TWO, rows[:59] + (rows[0], other))
        draw = random.Random(49)
        for text in ENDLESS:
            mirrors = Mirrors.read(text)
            word = shortest_word(draw, mirrors)
            rows = turned_rows(mirrors, word)
            self.same(word_of_rows(mirrors, tuple(draw.sample(rows, 60))), first_word(mirrors, word))
        plain = tuple((k, 0, 0) for k in range(70))
        self.same(word_of_rows(THREE, plain[:60]), None)
        for many in (61, 62, 70):
            self.refuses(InvalidRows, {"index": 60}, word_of_rows, THREE, plain[:many])

    def test_rows_that_are_no_tuple(self):
        for rows in [*ANYTHING, [(1, 0, 0)], {(1, 0, 0)}, {(1, 0, 0): 1}, iter(()), (x for x in ()), "100"]:
            if not isinstance(rows, tuple):
                self.refuses(InvalidRows, {"index": None}, word_of_rows, THREE, rows)

    def test_a_wrong_row(self):
        good = ((1, 1, 0), (0, 1, 0), (3, 7, -9), (10 ** 59, 0, 0))
        wrong = [
            *ANYTHING, [1, 0, 0], "100", (1, 0), (1, 0, 0, 0), (), (True, 0, 0), (1, False, 0), (1, 0, "0"),
            (1, 0, None), ((1,), 0, 0), ([1], 0, 0), (1, 0, (0,)), (b"a", 0, 0), {1: 1, 2: 2, 3: 3}, range(3),
        ]
        for value in wrong:
            for index in range(5):
                for behind in ((), ((0, 0, 1),), (None, [], good[0])):
                    self.refuses(InvalidRows, {"index": index}, word_of_rows, THREE, good[:index] + (value, *behind))

    def test_a_row_twice(self):
        good = ((1, 1, 0), (0, 1, 0), (3, 7, -9))
        for index in range(1, 4):
            for row in good[:index]:
                for behind in ((), (None,), (row,), ((1, 2, 3, 4),)):
                    self.refuses(InvalidRows, {"index": index}, word_of_rows, THREE, good[:index] + (row, *behind))


class ErrorsTest(Case):
    def test_word_and_lot(self):
        for mirrors in (THREE, all_alike(6, 0), Mirrors(1, ())):
            letters = mirrors.letters
            for call in (parted, is_part):
                self.refused(
                    call, ("mirrors", mirrors, wrong_mirrors()), ("word", letters, wrong_words(letters)),
                    ("lot", letters, wrong_lots(letters)))
            self.refused(support, ("mirrors", mirrors, wrong_mirrors()), ("word", letters, wrong_words(letters)))

    def test_lot_and_rest(self):
        for mirrors in (THREE, all_alike(6, 0), Mirrors(1, ())):
            letters = mirrors.letters
            self.refused(
                inner, ("mirrors", mirrors, wrong_mirrors()), ("lot", letters, wrong_lots(letters)),
                ("word", letters, wrong_words(letters)), ("rest", letters[:1], wrong_lots(letters)))

    def test_rows(self):
        wrong = [(rows, InvalidRows, {"index": index}) for rows, index in [
            (None, None), ([(1, 0, 0)], None), (((1, 0),), 0), (((1, 0, 0), (1, 0, 0)), 1), (((1, 0, True),), 0)]]
        self.refused(word_of_rows, ("mirrors", THREE, wrong_mirrors()), ("rows", ((1, 0, 0),), wrong))
        # How many numbers a row has is asked of these mirrors.
        self.refuses(InvalidRows, {"index": 0}, word_of_rows, TWO, ((1, 0, 0),))
        self.same(word_of_rows(TWO, ((1, 0),)), "a")

    def test_nothing_is_changed(self):
        rows = [[1, 0, 0], (0, 1, 0)]
        self.refuses(InvalidRows, {"index": None}, word_of_rows, THREE, rows)
        self.refuses(InvalidRows, {"index": 0}, word_of_rows, THREE, tuple(rows))
        self.assertEqual(rows, [[1, 0, 0], (0, 1, 0)])


if __name__ == "__main__":
    unittest.main()
