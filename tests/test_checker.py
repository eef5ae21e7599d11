"""The checker: points [2] and [12] and the interface."""

import itertools
import random
import unittest

from braidwords.checker import accepts
from braidwords.lengths import first_word
from braidwords.mirrors import Mirrors
from braidwords.moves import path
from braidwords.sending import rows_of
from braidwords.under import part_word
from helper import ALL, ANYTHING, ENDLESS, FINITE, MODELS, NUMBERS, Case, Plain, all_alike, all_angles, beside
from helper import drawn_word, is_one_step, longest_word, numbers_of, plain_puttings, plain_strikings, plain_turnings
from helper import renamed, shortest_word, small_mirrors, some_mirrors, walked

THREE = Mirrors(3, (("a", "b", 3), ("b", "c", 3)))
KINDS = ("alike", "unlike", "shortest", "under", "finite", "endless")


def is_integer(value):
    return type(value) is int


class Truth:
    """What must be accepted for short words, by the words of [12] alone and a plain search."""

    def __init__(self, plain):
        self.plain, self.mirrors, self.text = plain, plain.mirrors, plain.mirrors.text
        self.numbers = numbers_of(plain.mirrors)
        self.most = max(map(len, plain.words))

    def knows(self, claim):
        """Whether its words are so short that the plain search tells of them."""
        return all(len(value) <= self.most for value in claim[2:] if self.is_word(value))

    def is_word(self, value):
        return type(value) is str and len(value) <= 60 and set(value) <= set(self.mirrors.letters)

    def right(self, claim, paper):
        if type(claim) is not tuple or len(claim) < 2 or type(claim[0]) is not str or claim[0] not in KINDS:
            return False
        if type(claim[1]) is not str or claim[1] != self.text:
            return False
        return getattr(self, claim[0])(claim[2:], paper)

    def alike(self, told, paper):
        if len(told) != 2 or type(paper) is not tuple or not paper or not all(map(self.is_word, told + paper)):
            return False
        return (paper[0], paper[-1]) == told and all(is_one_step(self.numbers, *x) for x in itertools.pairwise(paper))

    def unlike(self, told, paper):
        if len(told) != 2 or not all(map(self.is_word, told)):
            return False
        if type(paper) is not str or len(paper) != 1 or paper not in self.mirrors.letters:
            return False
        at = self.mirrors.letters.index(paper)
        return rows_of(self.mirrors, told[0])[at] != rows_of(self.mirrors, told[1])[at]

    def is_shortest(self, word):
        return self.is_word(word) and (len(word) <= self.most and self.plain.length(word) == len(word))

    def shortest(self, told, paper):
        return len(told) == 1 and self.is_shortest(told[0]) and type(paper) is tuple and paper == ()

    def under(self, told, paper):
        if len(told) != 2 or not self.is_word(told[0]) or not self.is_shortest(told[1]) or type(paper) is not tuple:
            return False
        one, other = told
        if not all(is_integer(x) and 0 <= x < len(other) for x in paper) or list(paper) != sorted(set(paper)):
            return False
        return len(one) <= self.most and self.plain.first(one) == self.plain.first("".join(other[k] for k in paper))

    def finite(self, told, paper):
        many = finite_number(self.mirrors)
        return len(told) == 1 and is_integer(told[0]) and told[0] == many and type(paper) is tuple and paper == ()

    def endless(self, told, paper):
        return told == () and type(paper) is tuple and paper == () and finite_number(self.mirrors) is None


def finite_number(mirrors):
    """How many elements there are, by the known kinds of up to three letters; None if there is no end of them."""
    told = {x + y: m for x, y, m in mirrors.angles}
    numbers = sorted(told.get(x + y, 2) for x, y in itertools.combinations(mirrors.letters, 2))
    known = {
        (): 2, (2,): 4, (3,): 6, (4,): 8, (6,): 12, (2, 2, 2): 8, (2, 2, 3): 12, (2, 2, 4): 16, (2, 2, 6): 24,
        (2, 3, 3): 24, (2, 3, 4): 48,
    }
    return known.get(tuple(numbers))


def right_ones(draw, truth):
    """Some right claims with right papers."""
    plain, mirrors, text = truth.plain, truth.mirrors, truth.text
    words = [draw.choice(plain.words) for _ in range(6)]
    for one, other in itertools.pairwise(words):
        if plain.first(one) != plain.first(other):
            sent = zip(mirrors.letters, rows_of(mirrors, one), rows_of(mirrors, other))
            yield ("unlike", text, one, other), draw.choice([x for x, row, mate in sent if row != mate])
        yield from alike_ones(draw, truth, one)
        first = draw.choice(plain.shortest(other))
        yield ("shortest", text, first), ()
        taken = tuple(k for k in range(len(first)) if draw.random() < 0.6)
        under = "".join(first[k] for k in taken)
        yield ("under", text, draw.choice(plain.alike[under]), first), taken
    many = finite_number(mirrors)
    yield (("endless", text) if many is None else ("finite", text, many)), ()


def alike_ones(draw, truth, word):
    """Claims that a word is alike to others, some steps away."""
    row = [word]
    for _ in range(draw.randint(0, 5)):
        near = sorted(plain_turnings(truth.numbers, row[-1])) * 3 + sorted(plain_strikings(row[-1]))
        near += draw.sample(sorted(plain_puttings(truth.mirrors.letters, row[-1])), 1)
        row.append(draw.choice(near))
    yield ("alike", truth.text, word, row[-1]), tuple(row)


def bent(draw, truth, value):
    """The value with one part otherwise."""
    others = [*ANYTHING, *KINDS, truth.text, truth.text + " ", "abc ab3", "abd", "a", "b", "a" * 61, 1, 2, 24, (0,)]
    if type(value) is tuple and value and draw.random() < 0.85:
        at = draw.randrange(len(value))
        return draw.choice([
            lambda: value[:at] + value[at + 1:], lambda: value[:at] + (value[at], value[at]) + value[at + 1:],
            lambda: value[:at] + (draw.choice(others),) + value[at:], lambda: value + (draw.choice(others),),
            lambda: value[:at] + (bent(draw, truth, value[at]),) + value[at + 1:],
            lambda: value[:at] + (bent(draw, truth, value[at]),) + value[at + 1:],
            lambda: value[:at] + (bent(draw, truth, value[at]),) + value[at + 1:], lambda: list(value),
            lambda: value[::-1],
        ])()
    if type(value) is str and value and draw.random() < 0.8:
        at = draw.randrange(len(value))
        sign = draw.choice("abcdg 034A\n")
        return value[:at] + draw.choice(["", sign, sign]) + value[at + draw.randint(0, 1):]
    if type(value) is int:
        return draw.choice([bool(value), str(value), value + 1, value - 1, -value, (value,), [value], None])
    return draw.choice(others)


class InterfaceTest(Case):
    def test_parameters(self):
        self.is_listed(accepts, "braidwords.checker", ["claim", "paper"])

    def test_examples(self):
        self.same(
            [accepts(("alike", "ab ab3", "aba", "bab"), ("aba", "bab")),
             accepts(("alike", "ab ab4", "aba", "bab"), ("aba", "bab")),
             accepts(("unlike", "ab ab4", "aba", "bab"), "a"), accepts(("finite", "ab ab6", 12), ())],
            [True, False, True, True])

    def test_arguments_by_name(self):
        self.assertIs(accepts(paper=("aba", "bab"), claim=("alike", "ab ab3", "aba", "bab")), True)


class ShortWordsTest(Case):
    def truths(self, each):
        for mirrors in small_mirrors()[::each]:
            yield Truth(Plain(mirrors, 4))

    def check(self, truth, claim, paper):
        told = accepts(claim, paper)
        self.assertIs(told, truth.right(claim, paper), (claim, paper))
        return told

    def test_right_ones_and_bent_ones(self):
        draw = random.Random(90)
        seen = {}
        for truth in self.truths(1):
            for claim, paper in right_ones(draw, truth):
                self.assertIs(truth.right(claim, paper), True)
                self.assertIs(accepts(claim, paper), True)
                seen[claim[0]] = True
                for _ in range(6):
                    # Another text is another claim, which is right only for other mirrors.
                    other = bent(draw, truth, claim)
                    if type(other) is not tuple or len(other) < 2 or type(other[1]) is not str:
                        self.assertIs(accepts(other, paper), False)
                    elif other[1] == truth.text and truth.knows(other):
                        self.check(truth, other, paper)
                    self.check(truth, claim, bent(draw, truth, paper))
        self.assertEqual(set(seen), set(KINDS))

    def test_all_claims_about_short_words(self):
        # All words of up to two letters, with all papers of a few kinds.
        for truth in self.truths(8):
            words = [word for word in truth.plain.words if len(word) <= 2]
            papers = [(), (0,), (1,), (0, 1), *truth.mirrors.letters, "", "g"]
            for one, other in itertools.product(words, words):
                for kind in ("alike", "unlike", "under"):
                    for paper in [*papers, (one,), (one, other), (one, one + one[:1], other)]:
                        if self.check(truth, (kind, truth.text, one, other), paper):
                            self.assert_so(truth.plain, kind, one, other)
            for word in truth.plain.words:
                for paper in ((), (word,), "", None, []):
                    self.check(truth, ("shortest", truth.text, word), paper)

    def assert_so(self, plain, kind, one, other):
        if kind == "under":
            self.assertTrue(plain.is_under(one, other))
        else:
            self.assertIs(plain.first(one) == plain.first(other), kind == "alike")


class AlikeTest(Case):
    def test_one_step_of_each_kind(self):
        for mirrors in some_mirrors()[::7]:
            numbers, text = numbers_of(mirrors), mirrors.text
            word = drawn_word(random.Random(text), mirrors.letters, 7) + "aa"
            near = {*plain_turnings(numbers, word), *plain_strikings(word), *plain_puttings(mirrors.letters, word)}
            for other in near:
                self.assertIs(accepts(("alike", text, word, other), (word, other)), True)
                self.assertIs(accepts(("alike", text, other, word), (other, word)), True)
                self.assertIs(accepts(("alike", text, other, word), (word, other)), False)
                self.assertIs(accepts(("alike", text, word, other), [word, other]), False)
            for other in [word[:-1], word + "a", word[::-1], word[1:] + word[:1], word + "aaaa", "", word]:
                self.assertIs(accepts(("alike", text, word, other), (word, other)), other in near)

    def test_no_step(self):
        for word in ("", "a", "aba", "abc" * 20):
            self.assertIs(accepts(("alike", THREE.text, word, word), (word,)), True)
            self.assertIs(accepts(("alike", THREE.text, word, word), (word, word)), False)
            self.assertIs(accepts(("alike", THREE.text, word, word), ()), False)
            self.assertIs(accepts(("alike", THREE.text, word, word), word), False)
        self.assertIs(accepts(("alike", THREE.text, "aba", "bab"), ("aba",)), False)
        self.assertIs(accepts(("alike", THREE.text, "aba", "bab"), ("bab",)), False)
        self.assertIs(accepts(("alike", THREE.text, "aba", "bab"), ()), False)

    def test_two_steps_at_once(self):
        self.assertIs(accepts(("alike", "abc", "abc", "cab"), ("abc", "acb", "cab")), True)
        self.assertIs(accepts(("alike", "abc", "abc", "cab"), ("abc", "cab")), False)
        self.assertIs(accepts(("alike", "abc", "aabb", ""), ("aabb", "aa", "")), True)
        self.assertIs(accepts(("alike", "abc", "aabb", ""), ("aabb", "")), False)
        self.assertIs(accepts(("alike", "abc", "", "aabb"), ("", "bb", "aabb")), True)
        self.assertIs(accepts(("alike", "abc", "", "aabb"), ("", "aabb")), False)

    def test_words_of_60_and_more_letters(self):
        draw = random.Random(91)
        for mirrors in [*some_mirrors()[::9], *map(Mirrors.read, ENDLESS[::3])]:
            text, one = mirrors.text, drawn_word(draw, mirrors.letters, 60)
            other = walked(draw, mirrors, one, 20)
            paper = path(mirrors, one, other)
            claim = ("alike", text, one, other)
            self.assertIs(accepts(claim, paper), True)
            numbers = numbers_of(mirrors)
            for _ in range(5):
                at = draw.randrange(len(paper))
                gone = paper[:at] + paper[at + 1:]
                right = bool(gone) and (gone[0], gone[-1]) == (one, other) and all(
                    is_one_step(numbers, *x) for x in itertools.pairwise(gone))
                self.assertIs(accepts(claim, gone), right)
                self.assertIs(accepts(claim, paper[:at] + paper[at:at + 1] + paper[at:]), False)
                self.assertIs(accepts(claim, paper[:at] + (paper[at][:-1] or "ab",) + paper[at + 1:]), False)
                self.assertIs(accepts(claim, paper[:at] + (list(paper[at]),) + paper[at + 1:]), False)
        # A word of 61 or 62 letters is no word, not on the way either.
        for many in (59, 60):
            word = "a" * many
            self.assertIs(accepts(("alike", "a", word, word), (word, word + "aa", word)), False)
            self.assertIs(accepts(("alike", "a", word, word + "aa"), (word, word + "aa")), False)
        self.assertIs(accepts(("alike", "a", "a" * 58, "a" * 60), ("a" * 58, "a" * 60)), True)
        self.assertIs(accepts(("alike", "a", "a" * 58, "a" * 58), ("a" * 58, "a" * 60, "a" * 58)), True)

    def test_a_long_paper(self):
        row = ("", "aa") * 3000
        self.assertIs(accepts(("alike", "ab", "", "aa"), row), True)
        self.assertIs(accepts(("alike", "ab", "", "aa"), row + row[1:]), False)
        self.assertIs(accepts(("alike", "ab", "", ""), row + ("",)), True)


class UnlikeTest(Case):
    def test_each_letter(self):
        draw = random.Random(92)
        for mirrors, model, _ in MODELS:
            for many in (2, 8, 60):
                one, other = drawn_word(draw, mirrors.letters, many), drawn_word(draw, mirrors.letters, many)
                rows = zip(mirrors.letters, rows_of(mirrors, one), rows_of(mirrors, other))
                unlike = "".join(x for x, row, mate in rows if row != mate)
                self.assertIs(unlike != "", model(one) != model(other))
                for x in ALL + "g":
                    self.assertIs(accepts(("unlike", mirrors.text, one, other), x), x in unlike)
                for paper in [*ANYTHING, mirrors.letters, unlike + "a", (unlike[:1],), [unlike[:1]], unlike[:1] + "\n"]:
                    if not (isinstance(paper, str) and len(paper) == 1 and paper in mirrors.letters):
                        self.assertIs(accepts(("unlike", mirrors.text, one, other), paper), False)
                near = walked(draw, mirrors, one, 15)
                for x in mirrors.letters:
                    self.assertIs(accepts(("unlike", mirrors.text, one, near), x), False)


class ShortestTest(Case):
    def test_words_of_60_letters(self):
        draw = random.Random(93)
        for mirrors, model, length_of in MODELS:
            for many in (1, 5, 12, 60):
                word = drawn_word(draw, mirrors.letters, many)
                self.assertIs(accepts(("shortest", mirrors.text, word), ()), length_of(model(word)) == many)
                self.assertIs(accepts(("shortest", mirrors.text, first_word(mirrors, word)), ()), True)
        self.assertIs(accepts(("shortest", "ab ab0", "ab" * 30), ()), True)
        self.assertIs(accepts(("shortest", "ab ab0", "ab" * 30 + "a"), ()), False)
        self.assertIs(accepts(("shortest", "ab ab6", "ab" * 3), ()), True)
        self.assertIs(accepts(("shortest", "ab ab6", "ab" * 3 + "a"), ()), False)

    def test_other_papers(self):
        for paper in [*ANYTHING, (0,), ((),), "ab", ("ab",), {}]:
            right = isinstance(paper, tuple) and paper == ()
            self.assertIs(accepts(("shortest", "ab", "ab"), paper), right)
            self.assertIs(accepts(("finite", "ab", 4), paper), right)
            self.assertIs(accepts(("endless", "ab ab0"), paper), right)


class UnderTest(Case):
    def test_words_of_60_letters(self):
        draw = random.Random(94)
        for text in ENDLESS:
            mirrors = Mirrors.read(text)
            other = shortest_word(draw, mirrors)
            taken = tuple(k for k in range(60) if draw.random() < 0.7)
            one = "".join(other[k] for k in taken)
            claim = ("under", text, one, other)
            self.assertIs(accepts(claim, taken), True)
            self.assertIs(accepts(claim, part_word(mirrors, one, other)), True)
            self.assertIs(accepts(("under", text, walked(draw, mirrors, one, 20), other), taken), True)
            self.assertIs(accepts(("under", text, other, other), tuple(range(60))), True)
            self.assertIs(accepts(("under", text, "", other), ()), True)
            at = draw.randrange(len(taken))
            for paper in [
                taken[:at] + taken[at + 1:], list(taken), taken[::-1], taken + (60,), taken + taken[-1:], (-1,) + taken,
                taken[:at] + (taken[at],) + taken[at:], taken[:at] + (str(taken[at]),) + taken[at + 1:],
                taken[:at] + ((taken[at],),) + taken[at + 1:], one, range(60), taken[:-1] + (taken[-1] - 60,),
            ]:
                self.assertIs(accepts(claim, paper), False)

    def test_the_other_is_not_shortest(self):
        self.assertIs(accepts(("under", "ab ab3", "a", "aab"), (0,)), False)
        self.assertIs(accepts(("under", "ab ab3", "a", "abab"), (0,)), False)
        self.assertIs(accepts(("under", "ab ab3", "a", "ab"), (0,)), True)
        self.assertIs(accepts(("under", "ab ab3", "", "aa"), ()), False)
        # The one need not be shortest, nor need what the indexes take.
        self.assertIs(accepts(("under", "ab ab3", "aab", "ab"), (1,)), True)
        self.assertIs(accepts(("under", "ab ab3", "", "aba"), (0, 2)), True)
        self.assertIs(accepts(("under", "ab ab3", "b", "aba"), (0, 2)), False)

    def test_true_is_no_index(self):
        for paper in [
            (0, True), (False, 1), (False, True), (0, "1"), (0, 1, 1), (1, 0), (0, 2), (-2, 1), (-2, -1), (0, -1),
            [0, 1], (0,), (1,), (),
        ]:
            self.assertIs(accepts(("under", "ab ab3", "ab", "ab"), paper), False)
        self.assertIs(accepts(("under", "ab ab3", "ab", "ab"), (0, 1)), True)
        self.assertIs(accepts(("under", "ab ab3", "b", "ab"), (True,)), False)
        self.assertIs(accepts(("under", "ab ab3", "a", "ab"), (False,)), False)


class NumberTest(Case):
    def check_finite(self, mirrors, many):
        self.assertIs(accepts(("finite", mirrors.text, many), ()), True)
        self.assertIs(accepts(("endless", mirrors.text), ()), False)
        for other in (many - 1, many + 1, 2 * many, -many, str(many), None, (many,), [many], True, 0, 10 ** 59):
            self.assertIs(accepts(("finite", mirrors.text, other), ()), False)
        self.assertIs(accepts(("finite", mirrors.text), ()), False)
        self.assertIs(accepts(("finite", mirrors.text, many, many), ()), False)
        self.assertIs(accepts(("endless", mirrors.text, many), ()), False)

    def check_endless(self, mirrors):
        self.assertIs(accepts(("endless", mirrors.text), ()), True)
        for many in (0, 1, 2, -1, 24, 51840, None, (), "", 10 ** 59):
            self.assertIs(accepts(("finite", mirrors.text, many), ()), False)
            self.assertIs(accepts(("endless", mirrors.text, many), ()), False)

    def test_small_mirrors(self):
        for size in (1, 2, 3):
            for angles in all_angles(size):
                mirrors = Mirrors(size, angles)
                many = finite_number(mirrors)
                self.check_endless(mirrors) if many is None else self.check_finite(mirrors, many)

    def test_known_mirrors(self):
        draw = random.Random(95)
        for text, (many, length) in FINITE.items():
            size = len(text.split(" ")[0])
            mirrors = renamed(text, draw.sample(ALL[:size], size))
            self.check_finite(mirrors, many)
            self.assertIs(accepts(("shortest", mirrors.text, longest_word(mirrors)), ()), True)
            self.assertEqual(len(longest_word(mirrors)), length)
        for text in ENDLESS:
            size = len(text.split(" ")[0])
            self.check_endless(renamed(text, draw.sample(ALL[:size], size)))

    def test_side_by_side(self):
        for one, other in itertools.product(FINITE, FINITE):
            if len(one.split(" ")[0]) + len(other.split(" ")[0]) <= 6:
                self.check_finite(beside(one, other), FINITE[one][0] * FINITE[other][0])
        for one, other in itertools.product(FINITE, ENDLESS):
            if len(one.split(" ")[0]) + len(other.split(" ")[0]) <= 6:
                self.check_endless(beside(one, other))
        for size in range(1, 7):
            self.check_finite(all_alike(size, 2), 2 ** size)


class AnythingTest(Case):
    """Whatever is passed, the answer is False, and never an error."""

    RIGHT = [
        (("alike", "ab ab3", "aba", "bab"), ("aba", "bab")), (("unlike", "ab ab4", "aba", "bab"), "a"),
        (("shortest", "ab ab4", "abab"), ()), (("under", "ab ab3", "b", "aba"), (1,)), (("finite", "ab ab6", 12), ()),
        (("endless", "ab ab0"), ()),
    ]

    @classmethod
    def setUpClass(cls):
        plains = [Plain(all_alike(2, m), 6) for m in NUMBERS] + [Plain(all_alike(3, 2), 4)]
        cls.truths = {plain.mirrors.text: Truth(plain) for plain in plains}

    def others(self):
        return [*ANYTHING, Mirrors.read("ab ab3"), Mirrors, accepts, "ab ab3", ("aba",), [1], (True,), *KINDS]

    def test_right(self):
        for claim, paper in self.RIGHT:
            self.assertIs(accepts(claim, paper), True)

    def test_claims_of_all_kinds(self):
        for value in self.others():
            for _, paper in self.RIGHT:
                self.assertIs(accepts(value, paper), False)
            for other in self.others():
                self.assertIs(accepts(value, other), False)

    def check(self, claim, paper):
        """It is accepted exactly if the plain search for its mirrors, if there are any with its text, says so."""
        right = type(claim) is tuple and len(claim) > 1 and type(claim[1]) is str and claim[1] in self.truths and (
            self.truths[claim[1]].right(claim, paper))
        self.assertIs(accepts(claim, paper), right, (claim, paper))

    def test_papers_of_all_kinds(self):
        for claim, paper in self.RIGHT:
            for value in [*self.others(), (1,), (0,), (0, 1), ("aba", "bab", "aba"), "b"]:
                self.check(claim, value)
                self.check(claim, (value,))
                self.check(claim, (value,) + tuple(paper))
                self.check(claim, tuple(paper) + (value,))
                self.check(claim, (value,) + tuple(paper)[1:])

    def test_a_part_of_another_kind(self):
        for claim, paper in self.RIGHT:
            for at in range(len(claim)):
                for value in self.others():
                    self.check(claim[:at] + (value,) + claim[at + 1:], paper)
                    self.check(claim[:at] + (value,) + claim[at:], paper)
                self.check(claim[:at] + claim[at + 1:], paper)
                self.check(claim[:at] + (claim[at],) + claim[at:], paper)
                self.check(claim[:at] + ([claim[at]],) + claim[at + 1:], paper)
            for value in self.others():
                self.assertIs(accepts(claim + (value,), paper), False)
            self.assertIs(accepts(list(claim), paper), False)
            self.assertIs(accepts((claim, paper), ()), False)
            self.assertIs(accepts((claim,), paper), False)

    def test_other_kinds_of_claims(self):
        for claim, paper in self.RIGHT:
            for kind in [*KINDS, "Alike", "alike ", "ALIKE", "", "length", "true", b"alike", ("alike",), None, True]:
                if kind != claim[0]:
                    self.assertIs(accepts((kind, *claim[1:]), paper), False)

    def test_texts_that_are_not_just_so(self):
        for text in [
            "ab ab3 ", " ab ab3", "ab  ab3", "ab ab3\n", "ab ab3 ab3", "ba ab3", "ab ba3", "ab ab2", "ab ab5",
            "ab ab03", "AB AB3", "ab,ab3", "", " ", "b", "ac ac3", "ab ab", "abcdefg ab3", "ab ab3 ac3", "x" * 8000,
        ]:
            for claim, paper in self.RIGHT:
                self.assertIs(accepts((claim[0], text, *claim[2:]), paper), False)
        # No number 2 is told in a text.
        self.assertIs(accepts(("finite", "ab", 4), ()), True)
        self.assertIs(accepts(("finite", "ab ab2", 4), ()), False)

    def test_letters_beyond_and_words_of_61_letters(self):
        for word in ("c", "abc", "g", "A", "a b", "ab\n", "a" * 61, "ab" * 31):
            self.assertIs(accepts(("alike", "ab ab3", word, word), (word,)), False)
            self.assertIs(accepts(("alike", "ab ab3", "aba", "aba"), ("aba", word, "aba")), False)
            for letter in "ab":
                self.assertIs(accepts(("unlike", "ab ab0", word, ""), letter), False)
                self.assertIs(accepts(("unlike", "ab ab0", "", word), letter), False)
            self.assertIs(accepts(("shortest", "ab ab0", word), ()), False)
            self.assertIs(accepts(("under", "ab ab0", word, "ab"), ()), False)
            self.assertIs(accepts(("under", "ab ab0", "", word), ()), False)

    def test_nothing_is_changed(self):
        paper = ["aba", "bab"]
        claim = ["alike", "ab ab3", "aba", "bab"]
        self.assertIs(accepts(claim, paper), False)
        self.assertIs(accepts(tuple(claim), paper), False)
        self.assertEqual((claim, paper), (["alike", "ab ab3", "aba", "bab"], ["aba", "bab"]))


if __name__ == "__main__":
    unittest.main()
