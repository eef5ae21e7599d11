"""Certificates: points [2], [12] and the interface."""

import random
import unittest

from braidwords.certificates import certify_alike, certify_order, certify_shortest, certify_under
from braidwords.checker import accepts
from braidwords.errors import NotShortest
from braidwords.lengths import first_word, struck
from braidwords.mirrors import Mirrors
from braidwords.sending import unlike_letter
from helper import ENDLESS, FINITE, MODELS, Case, all_alike, beside, drawn_word, longest_word, shortest_word
from helper import small_mirrors, some_mirrors, some_plains, walked, wrong_mirrors, wrong_words

THREE = Mirrors(3, (("a", "b", 3), ("b", "c", 3)))
TWO = Mirrors.read("ab ab0")


def other_claims(claim):
    """Claims that are not so, if this one is."""
    kind, text, *told = claim
    others = [("alike", text, "", "a"), ("unlike", text, "aa", ""), ("shortest", text, "aa"), ("under", text, "a", "")]
    if kind in ("alike", "unlike"):
        others.append(("unlike" if kind == "alike" else "alike", text, *told))
    if kind == "finite":
        others += [("endless", text), ("finite", text, told[0] + 1), ("finite", text, told[0] // 2)]
    if kind == "endless":
        others += [("finite", text, 2), ("finite", text, 0)]
    return others


class CertifiedCase(Case):
    def certified(self, told, claim):
        """It is a pair of this claim and a paper for it, which is one for no claim that is not so."""
        self.assertIs(type(told), tuple)
        self.assertEqual(len(told), 2)
        self.same(told[0], claim)
        self.assertIs(accepts(*told), True)
        for other in other_claims(claim):
            self.assertIs(accepts(other, told[1]), False)
        return told[1]


class InterfaceTest(Case):
    def test_parameters(self):
        self.is_listed(certify_alike, "braidwords.certificates", ["mirrors", "one", "other"])
        self.is_listed(certify_shortest, "braidwords.certificates", ["mirrors", "word"])
        self.is_listed(certify_under, "braidwords.certificates", ["mirrors", "one", "other"])
        self.is_listed(certify_order, "braidwords.certificates", ["mirrors"])

    def test_examples(self):
        three, two = THREE, TWO
        self.same(
            [certify_alike(two, "aba", "bab")[0], certify_alike(three, "aba", "bab")[0][0],
             certify_shortest(three, "ab"), certify_under(three, "ac", "abc")[1], certify_order(three),
             certify_order(two)[0][0]],
            [("unlike", "ab ab0", "aba", "bab"), "alike", (("shortest", "abc ab3 bc3", "ab"), ()), (0, 2),
             (("finite", "abc ab3 bc3", 24), ()), "endless"])

    def test_arguments_by_name(self):
        self.same(certify_alike(other="bab", one="aba", mirrors=TWO)[0], ("unlike", "ab ab0", "aba", "bab"))
        self.same(certify_shortest(word="ab", mirrors=THREE)[0], ("shortest", "abc ab3 bc3", "ab"))
        self.same(certify_under(other="abc", one="ac", mirrors=THREE)[1], (0, 2))
        self.same(certify_order(mirrors=THREE)[0], ("finite", "abc ab3 bc3", 24))


class ShortWordsTest(CertifiedCase):
    def test_alike(self):
        draw = random.Random(100)
        for plain in some_plains():
            mirrors = plain.mirrors
            for one in draw.sample(plain.words, min(12, len(plain.words))):
                for other in (draw.choice(plain.alike[one]), draw.choice(plain.words), one):
                    alike = plain.first(one) == plain.first(other)
                    claim = ("alike" if alike else "unlike", mirrors.text, one, other)
                    paper = self.certified(certify_alike(mirrors, one, other), claim)
                    if alike:
                        self.same((paper[0], paper[-1]), (one, other))
                    else:
                        self.same(paper, unlike_letter(mirrors, one, other))

    def test_shortest(self):
        draw = random.Random(101)
        for plain in some_plains():
            for word in draw.sample(plain.words, min(40, len(plain.words))):
                if plain.length(word) == len(word):
                    told = certify_shortest(plain.mirrors, word)
                    self.same(self.certified(told, ("shortest", plain.mirrors.text, word)), ())
                else:
                    told = {"indexes": struck(plain.mirrors, word)}
                    self.refuses(NotShortest, told, certify_shortest, plain.mirrors, word)
                    self.refuses(NotShortest, told, certify_shortest, word=word, mirrors=plain.mirrors)

    def test_under(self):
        draw = random.Random(102)
        seen = set()
        for plain in some_plains():
            mirrors = plain.mirrors
            for word in draw.sample(plain.words, min(12, len(plain.words))):
                other = draw.choice(plain.shortest(word))
                for one in draw.sample(plain.words, min(6, len(plain.words))):
                    right = plain.is_under(one, other)
                    seen.add(right)
                    if right:
                        paper = self.certified(
                            certify_under(mirrors, one, other), ("under", mirrors.text, one, other))
                        self.assertEqual(plain.first("".join(other[k] for k in paper)), plain.first(one))
                    else:
                        self.assertIsNone(certify_under(mirrors, one, other))
        self.assertEqual(seen, {True, False})

    def test_order(self):
        for mirrors in small_mirrors():
            told = certify_order(mirrors)
            self.assertIn(told[0][0], ("finite", "endless"))
            self.certified(told, told[0])


class LongWordsTest(CertifiedCase):
    def test_alike(self):
        draw = random.Random(103)
        for mirrors in [*some_mirrors()[::5], *map(Mirrors.read, ENDLESS)]:
            one = drawn_word(draw, mirrors.letters, 60)
            for other in (walked(draw, mirrors, one, 20), first_word(mirrors, one)):
                paper = self.certified(certify_alike(mirrors, one, other), ("alike", mirrors.text, one, other))
                self.assertLessEqual(max(map(len, paper)), 60)
            self.certified(certify_alike(mirrors, one, one), ("alike", mirrors.text, one, one))

    def test_unlike(self):
        draw = random.Random(104)
        for mirrors, model, _ in MODELS:
            for _ in range(4):
                one, other = drawn_word(draw, mirrors.letters, 60), drawn_word(draw, mirrors.letters, 60)
                kind = "alike" if model(one) == model(other) else "unlike"
                self.certified(certify_alike(mirrors, one, other), (kind, mirrors.text, one, other))

    def test_shortest_and_under(self):
        draw = random.Random(105)
        for text in ENDLESS:
            mirrors = Mirrors.read(text)
            word = shortest_word(draw, mirrors)
            self.same(self.certified(certify_shortest(mirrors, word), ("shortest", text, word)), ())
            one = "".join(x for x in word if draw.random() < 0.8)
            for told in (one, walked(draw, mirrors, one, 20), "", word):
                paper = self.certified(certify_under(mirrors, told, word), ("under", text, told, word))
                self.assertIs(type(paper), tuple)
            self.assertIsNone(certify_under(mirrors, word, word[:-1]))
            self.assertIsNone(certify_under(mirrors, word, ""))

    def test_longest_words(self):
        for text, (many, _) in FINITE.items():
            mirrors = Mirrors.read(text)
            word = longest_word(mirrors)
            self.same(certify_order(mirrors), (("finite", text, many), ()))
            self.certified(certify_order(mirrors), ("finite", text, many))
            self.certified(certify_shortest(mirrors, word), ("shortest", text, word))
            self.certified(certify_under(mirrors, word[::-1], word), ("under", text, word[::-1], word))
            self.certified(certify_alike(mirrors, word[::-1], word), ("alike", text, word[::-1], word))

    def test_order(self):
        for text in ENDLESS:
            self.same(certify_order(Mirrors.read(text)), (("endless", text), ()))
            self.certified(certify_order(Mirrors.read(text)), ("endless", text))
        mirrors = beside("abcd ab3 bc4 cd3", "ab ab6")
        self.certified(certify_order(mirrors), ("finite", mirrors.text, 1152 * 12))
        for size in range(1, 7):
            self.same(certify_order(all_alike(size, 2))[0][2], 2 ** size)


class ErrorsTest(Case):
    def test_errors(self):
        for mirrors in (THREE, all_alike(6, 0)):
            letters = mirrors.letters
            for one, other in [("ab", "ba"), ("aa", "b")]:
                self.refused(
                    certify_alike, ("mirrors", mirrors, wrong_mirrors()), ("one", one, wrong_words(letters)),
                    ("other", other, wrong_words(letters)))
            # What is not shortest comes behind all that is wrong by itself.
            for other in ("ab", "aa"):
                self.refused(
                    certify_under, ("mirrors", mirrors, wrong_mirrors()), ("one", "aab", wrong_words(letters)),
                    ("other", other, wrong_words(letters)))
            self.refused(
                certify_shortest, ("mirrors", mirrors, wrong_mirrors()), ("word", "aa", wrong_words(letters)))
            self.refused(certify_order, ("mirrors", mirrors, wrong_mirrors()))

    def test_what_is_not_shortest(self):
        long = "abc" * 20
        for word, indexes in [("aa", (0, 1)), ("abab", (0, 3)), ("cabab", (1, 4)), (long, struck(THREE, long))]:
            self.refuses(NotShortest, {"indexes": indexes}, certify_shortest, THREE, word)
            for one in ("", "a", "cba", word):
                self.refuses(NotShortest, {"indexes": indexes}, certify_under, THREE, one, word)
                self.refuses(NotShortest, {"indexes": indexes}, certify_under, other=word, one=one, mirrors=THREE)
        # The one need not be shortest.
        self.same(certify_under(THREE, "aab", "ab"), (("under", THREE.text, "aab", "ab"), (1,)))


if __name__ == "__main__":
    unittest.main()
