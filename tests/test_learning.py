"""Angle numbers that are not known: the interface."""

import itertools
import random
import unittest

from braidwords.errors import InvalidTold, InvalidUnknown, InvalidWord, NoMove
from braidwords.learning import fitting, judge
from braidwords.mirrors import Mirrors
from braidwords.sending import is_alike
from helper import ALL, ANYTHING, NUMBERS, Case, Plain, all_alike, anything_but, drawn_word, some_mirrors, spread
from helper import triples, walked, words_of, wrong_mirrors, wrong_words

THREE = Mirrors(3, (("a", "b", 3), ("b", "c", 3)))
PAIR = Mirrors.read("ab")
SIX = Mirrors.read("abcdef ab3 bc4 cd6 de0 ef3")


def guesses(mirrors, unknown):
    """All mirrors that may be meant, in their order."""
    for numbers in itertools.product(NUMBERS, repeat=len(unknown)):
        told = {x + y: m for x, y, m in mirrors.angles}
        told.update(zip(unknown, numbers))
        pairs = ["".join(pair) for pair in itertools.combinations(mirrors.letters, 2)]
        yield Mirrors(mirrors.size, triples(mirrors.size, [told.get(pair, 2) for pair in pairs]))


def pairs_of(mirrors):
    return ["".join(pair) for pair in itertools.combinations(mirrors.letters, 2)]


def texts(told):
    return [mirrors.text for mirrors in told]


class InterfaceTest(Case):
    def test_parameters(self):
        self.is_listed(fitting, "braidwords.learning", ["mirrors", "unknown", "told"])
        self.is_listed(judge, "braidwords.learning", ["mirrors", "unknown", "told", "one", "other"])

    def test_examples(self):
        pair, three = PAIR, THREE
        self.same(
            [fitting(pair, ("ab",), (("aba", "bab", True),))[0].text,
             len(fitting(pair, ("ab",), (("abab", "baba", True),))),
             fitting(pair, ("ab",), (("abab", "baba", True),))[1].text, len(fitting(three, ("ab", "bc"), ())),
             fitting(pair, (), (("ab", "ba", False),))],
            ["ab ab3", 2, "ab ab4", 25, ()])
        self.same(
            [judge(pair, ("ab",), (("aba", "bab", True),), "abab", "ba"),
             judge(pair, ("ab",), (("abab", "baba", True),), "ab", "ba"),
             judge(pair, ("ab",), (("ab", "ba", False),), "aba", "b")],
            ["alike", "open", "unlike"])

    def test_arguments_by_name(self):
        told = (("aba", "bab", True),)
        self.assertEqual(texts(fitting(told=told, unknown=("ab",), mirrors=PAIR)), ["ab ab3"])
        self.same(judge(other="ba", one="abab", told=told, unknown=("ab",), mirrors=PAIR), "alike")


class FittingTest(Case):
    def check(self, mirrors, unknown, told):
        right = [guess for guess in guesses(mirrors, unknown)
                 if all(is_alike(guess, one, other) is alike for one, other, alike in told)]
        found = fitting(mirrors, unknown, told)
        self.same(found, tuple(right))
        self.assertEqual(texts(found), texts(right))
        return found

    def test_nothing_told(self):
        for mirrors in some_mirrors()[::2]:
            pairs = pairs_of(mirrors)
            for many in range(min(3, len(pairs)) + 1):
                for unknown in itertools.islice(itertools.combinations(pairs, many), 0, 40, 13):
                    self.assertEqual(len(self.check(mirrors, unknown, ())), 5 ** many)

    def test_no_unknown_pair(self):
        for mirrors in some_mirrors()[::2]:
            word = drawn_word(random.Random(mirrors.text), mirrors.letters, 20)
            self.assertEqual(texts(fitting(mirrors, (), ())), [mirrors.text])
            self.assertEqual(texts(fitting(mirrors, (), ((word, word, True),))), [mirrors.text])
            self.same(fitting(mirrors, (), ((word, word, False),)), ())
            self.same(fitting(mirrors, (), ((word, word, True), (word, word + "a", True))), ())

    def test_order(self):
        self.assertEqual(texts(fitting(PAIR, ("ab",), ())), ["ab", "ab ab3", "ab ab4", "ab ab6", "ab ab0"])
        found = fitting(Mirrors.read("abc ac4"), ("ab", "bc"), ())
        self.assertEqual(
            texts(found)[:7] + texts(found)[-1:],
            ["abc ac4", "abc ac4 bc3", "abc ac4 bc4", "abc ac4 bc6", "abc ac4 bc0", "abc ab3 ac4", "abc ab3 ac4 bc3",
             "abc ab0 ac4 bc0"])
        found = fitting(Mirrors.read("abc"), ("ab", "ac", "bc"), ())
        self.assertEqual(len(found), 125)
        told = [{x + y: m for x, y, m in mirrors.angles} for mirrors in found]
        numbers = [[NUMBERS.index(m.get(pair, 2)) for pair in ("ab", "ac", "bc")] for m in told]
        self.assertEqual(numbers, sorted(numbers))

    def test_the_own_number_of_an_unknown_pair_does_not_matter(self):
        for m in NUMBERS:
            mirrors = all_alike(2, m)
            self.assertEqual(texts(fitting(mirrors, ("ab",), ())), texts(fitting(PAIR, ("ab",), ())))
            self.assertEqual(texts(fitting(mirrors, ("ab",), (("ab", "ba", True),))), ["ab"])

    def test_short_words_by_a_plain_search(self):
        # What is told is asked of each mirrors by a plain search.
        plains = {m: Plain(all_alike(2, m), 8) for m in NUMBERS}
        draw = random.Random(50)
        words = words_of("ab", 6)
        for _ in range(300):
            told = [(draw.choice(words), draw.choice(words), draw.random() < 0.3) for _ in range(draw.randint(0, 3))]
            right = [m for m in NUMBERS
                     if all((plains[m].first(one) == plains[m].first(other)) is alike for one, other, alike in told)]
            self.assertEqual(texts(fitting(PAIR, ("ab",), tuple(told))), texts([all_alike(2, m) for m in right]))

    def test_what_is_told(self):
        draw = random.Random(51)
        for size in range(2, 7):
            for angles in spread(size)[::6]:
                mirrors = Mirrors(size, angles)
                for many in range(4):
                    unknown = tuple(sorted(draw.sample(pairs_of(mirrors), min(many, len(pairs_of(mirrors))))))
                    seen = draw.choice(list(guesses(mirrors, unknown)))
                    told = []
                    for k in range(draw.randint(1, 6)):
                        word = drawn_word(draw, mirrors.letters, draw.choice((4, 12, 60)))
                        near = walked(draw, seen, word, 8) if k % 2 else drawn_word(draw, mirrors.letters, 4)
                        told.append((word, near, is_alike(seen, word, near)))
                    # What was seen in these mirrors fits at least them.
                    self.assertIn(seen.text, texts(self.check(mirrors, unknown, tuple(told))))

    def test_told_for_all_some_and_none(self):
        unknown = ("ab", "ac")
        for told, many in [
            ((("aa", "", True),), 25), ((("a", "", False),), 25), ((("bc", "cb", True),), 0),
            ((("bcb", "cbc", True),), 25), ((("a", "", True),), 0), ((("aa", "", False),), 0),
            ((("ab", "ba", True),), 5), ((("ab", "ba", False),), 20),
            ((("ab", "ba", True), ("ab", "ba", False)), 0), ((("ab", "ba", True), ("ac", "ca", False)), 4),
            ((("ababab", "bababa", True), ("abab", "baba", False)), 10), ((("", "", True),) * 20, 25),
        ]:
            self.assertEqual(len(self.check(THREE, unknown, told)), many)

    def test_twenty_things_and_words_of_60_letters(self):
        draw = random.Random(52)
        seen = Mirrors.read("abcdef ab4 bc4 cd6 de0 ef6")
        told = []
        for k in range(20):
            word = drawn_word(draw, ALL, 60)
            near = walked(draw, seen, word, 30) if k % 2 else drawn_word(draw, ALL, 60)
            told.append((word, near, k % 2 == 1))
        self.assertIn(seen.text, texts(self.check(SIX, ("ab", "cd", "ef"), tuple(told))))
        self.assertEqual(len(fitting(SIX, ("ab", "cd", "ef"), ())), 125)
        same = (("abcdef" * 10, "abcdef" * 10, True),) * 20
        self.assertEqual(len(fitting(SIX, ("ab", "cd", "ef"), same)), 125)


class JudgeTest(Case):
    def test_all_outcomes(self):
        draw = random.Random(53)
        seen = set()
        for size in range(2, 7):
            for angles in spread(size)[::5]:
                mirrors = Mirrors(size, angles)
                for many in range(4):
                    unknown = tuple(sorted(draw.sample(pairs_of(mirrors), min(many, len(pairs_of(mirrors))))))
                    meant = draw.choice(list(guesses(mirrors, unknown)))
                    word = drawn_word(draw, mirrors.letters, 12)
                    told = ((word, walked(draw, meant, word, 12), True),)
                    for one in (drawn_word(draw, mirrors.letters, 8), drawn_word(draw, mirrors.letters, 60)):
                        other = draw.choice((one[::-1], walked(draw, meant, one, 12), one))
                        found = {is_alike(guess, one, other) for guess in fitting(mirrors, unknown, told)}
                        right = "open" if len(found) == 2 else "alike" if True in found else "unlike"
                        self.same(judge(mirrors, unknown, told, one, other), right)
                        seen.add(right)
        self.assertEqual(seen, {"alike", "open", "unlike"})

    def test_each_outcome(self):
        for told, one, other, right in [
            ((), "ab", "ba", "open"), ((), "aa", "", "alike"), ((), "a", "b", "unlike"), ((), "", "", "alike"),
            ((("ab", "ba", True),), "ab", "ba", "alike"), ((("ab", "ba", False),), "ab", "ba", "unlike"),
            ((("ab", "ba", False),), "aba", "bab", "open"),
            ((("aba", "bab", False), ("ab", "ba", False)), "abab", "baba", "open"),
            ((("ab" * 6, "", True),), "ab" * 30, "", "alike"), ((("ab" * 6, "", False),), "ab" * 30, "", "unlike"),
            ((("ab" * 12, "", False),), "ab" * 30, "ba" * 30, "unlike"),
        ]:
            self.same(judge(PAIR, ("ab",), told, one, other), right)
        self.same(judge(PAIR, (), (), "ab", "ba"), "alike")
        self.same(judge(all_alike(2, 3), (), (), "ab", "ba"), "unlike")

    def test_none_fit(self):
        for told in [(("a", "", True),), (("aa", "", False),), (("ab", "ba", True), ("ab", "ba", False))]:
            self.refuses(NoMove, {}, judge, PAIR, ("ab",), told, "ab", "ba")
            self.refuses(NoMove, {}, judge, other="", one="", told=told, unknown=("ab",), mirrors=PAIR)
            # What is wrong by itself comes ahead.
            self.refuses(InvalidWord, {"given": "abc"}, judge, PAIR, ("ab",), told, "abc", "d")
            self.refuses(InvalidWord, {"given": "d"}, judge, PAIR, ("ab",), told, "ab", "d")
        self.refuses(NoMove, {}, judge, all_alike(2, 3), (), (("ab", "ba", True),), "", "")


def wrong_unknown():
    """What is no tuple of unknown pairs of three letters, as `refused` takes it."""
    wrong = [(given, None) for given in [*ANYTHING, ["ab"], {"ab"}, "ab"] if not isinstance(given, tuple)]
    values = [
        *anything_but("ab"), "a", "abc", "aa", "ba", "cb", "ad", "de", "cd", "bd", "AB", "a b", "ab ", " ab", "ab\n",
        ("a", "b"), ["a", "b"], b"ab", ("ab",), "g", "ag",
    ]
    for value in values:
        for ahead in ((), ("ab",), ("ab", "ac")):
            for behind in ((), ("bc",), (None, 0)):
                wrong.append((ahead + (value,) + behind, len(ahead)))
    wrong += [
        (("ac", "ab"), 1), (("ab", "ab"), 1), (("ab", "bc", "ac"), 2), (("ab", "bc", "bc"), 2), (("bc", "ab", None), 1),
        (("ab", "ac", "bc", "bc"), 3), (("ab", "ac", "bc", "cd"), 3), (("ab", "ac", "bc", None, None), 3),
        (("ab", "ac", "ab", "bc"), 2), (("ab", None, "bc", "bc"), 1),
    ]
    return [(given, InvalidUnknown, {"index": index}) for given, index in wrong]


def wrong_told():
    """What is no tuple of things that are told of three letters, as `refused` takes it."""
    good = (("ab", "ba", True), ("", "", False), ("abc" * 20, "a", True))
    wrong = [(given, None) for given in [*ANYTHING, [good[0]], {good[0]}, "ab"] if not isinstance(given, tuple)]
    values = [
        *ANYTHING, ["ab", "ba", True], ("ab", "ba"), ("ab", "ba", True, True), ("ab", True), (), ("ab", "ba", 1),
        ("ab", "ba", 0), ("ab", "ba", None), ("ab", "ba", "True"), ("ab", "ba", "yes"), ("ab", "ba", (True,)),
        ("a" * 61, "a", True), ("a", "a" * 61, True), ("abd", "a", True), ("a", "abd", True), ("a b", "a", True),
        (None, "a", True), ("a", None, True), (b"a", "a", True), ("a", ["a"], True), (True, "a", "a"),
        (("ab",), "ba", True), ("A", "a", False), ("ab", "ba", []),
    ]
    for value in values:
        for many in (0, 1, 3):
            for behind in ((), (good[0],), (None,)):
                wrong.append((good[:many] + (value,) + behind, many))
    wrong += [
        (good[:1] * 21, 20), (good[:1] * 20 + (None,), 20), (good[:1] * 40, 20), (good[:1] * 19 + (None, None), 19),
        (good[:1] * 19 + (("ab", "ba", 1),) + good, 19),
    ]
    return [(given, InvalidTold, {"index": index}) for given, index in wrong]


class ErrorsTest(Case):
    def test_fitting(self):
        self.refused(
            fitting, ("mirrors", THREE, wrong_mirrors()), ("unknown", ("ab", "bc"), wrong_unknown()),
            ("told", (("ab", "ba", True),), wrong_told()))

    def test_judge(self):
        # In what is right here no mirrors fit, so NoMove would come if nothing else were wrong.
        self.refused(
            judge, ("mirrors", THREE, wrong_mirrors()), ("unknown", ("ab", "bc"), wrong_unknown()),
            ("told", (("a", "", True),), wrong_told()), ("one", "ab", wrong_words("abc")),
            ("other", "bab", wrong_words("abc")))
        self.refused(
            judge, ("mirrors", SIX, wrong_mirrors()), ("unknown", (), wrong_unknown()[:40]),
            ("told", (), wrong_told()[:40]), ("one", "ab", wrong_words(ALL)), ("other", "bab", wrong_words(ALL)))

    def test_three_pairs_and_twenty_things_are_right(self):
        self.assertEqual(len(fitting(THREE, ("ab", "ac", "bc"), (("", "aa", True),) * 20)), 125)
        self.refuses(InvalidUnknown, {"index": 3}, fitting, SIX, ("ab", "ac", "bc", "cd"), ())
        self.refuses(InvalidTold, {"index": 20}, fitting, SIX, ("ab", "ac", "bc"), (("", "aa", True),) * 21)

    def test_letters_beyond_these_mirrors(self):
        for size in range(1, 6):
            mirrors, beyond = Mirrors(size, ()), ALL[size]
            self.refuses(InvalidUnknown, {"index": 0}, fitting, mirrors, ("a" + beyond,), ())
            self.refuses(InvalidTold, {"index": 1}, fitting, mirrors, (), (("a", "a", True), ("a", beyond, True)))
        self.assertEqual(len(fitting(Mirrors(1, ()), (), ())), 1)

    def test_nothing_is_changed(self):
        unknown, told = ["ab"], [("ab", "ba", True)]
        self.refuses(InvalidUnknown, {"index": None}, fitting, THREE, unknown, told)
        self.refuses(InvalidTold, {"index": None}, fitting, THREE, ("ab",), told)
        self.assertEqual((unknown, told), (["ab"], [("ab", "ba", True)]))
        fitting(THREE, ("ab",), (("ab", "ba", True),))
        self.assertEqual(THREE.text, "abc ab3 bc3")


if __name__ == "__main__":
    unittest.main()
