"""Desks: points [2], [11] and the interface."""

import random
import unittest

from braidwords.boards import Board
from braidwords.desks import Desk
from braidwords.errors import Broken, InUse, InvalidClaim, InvalidIndex, InvalidName, InvalidWord, NotMirrors
from braidwords.errors import NothingToUndo, UnknownName
from braidwords.lengths import first_word
from braidwords.mirrors import Mirrors
from braidwords.sending import rows_of
from braidwords.under import is_under
from helper import ANYTHING, ENDLESS, Case, Plain, all_alike, drawn_word, some_mirrors, small_mirrors, walked
from helper import wrong_mirrors, wrong_words

THREE = Mirrors(3, (("a", "b", 3), ("b", "c", 3)))
TWO = Mirrors.read("ab ab0")

GOOD_NAMES = ["a", "z", "x", "abcdefgh", "zzzzzzzz", "word", "names", "claim"]
NO_NAMES = [
    *[x for x in ANYTHING if not (isinstance(x, str) and x in ("g", "ab", "ba", "aa", "abc"))], "", "abcdefghi",
    "z" * 9, "A", "aB", "X", "a1", "1", "a b", " a", "a ", "a\n", "\n", "a-b", "-", "_", "a_b", "`", "{", "a.",
    "abcdefgH", ("x",), ["x"], b"x", 120,
]

# What is no claim, whatever a desk has.
NO_CLAIMS = [
    *ANYTHING, ["alike", "x", "y"], ("alike",), ("alike", "x"), ("alike", "x", "y", "y"), ("unlike", "x"),
    ("under", "x"), ("under", "x", "y", "z"), ("length", "x"), ("length", 1), ("length", "x", 1, 1), ("length",),
    ("Alike", "x", "y"), ("alike ", "x", "y"), ("", "x", "y"), ("x", "alike", "y"), (b"alike", "x", "y"),
    (("alike",), "x", "y"), (["alike"], "x", "y"), (None, "x", "y"), (0, "x", "y"), (True, "x", "y"), "alike x y",
    ("shortest", "x", "y"), ("finite", "x", 1), ("lengt", "x", 1), ("alike x y",), {"alike": ("x", "y")}, "abc",
    *[("length", "x", n) for n in (-1, 61, 62, True, False, None, "1", "", (1,), [1], 10 ** 20, -(10 ** 59), b"1")],
    *[("length", value, -1) for value in ANYTHING], *[(value, "x", "y") for value in ANYTHING],
    *[("length", "x", value) for value in ANYTHING if type(value) is not int],
]


class Stop(Exception):
    """Ends the rows of a trial."""


def desk_of(mirrors, words, *claims):
    desk = Desk(mirrors)
    for name, word in words.items():
        desk.put(name, word)
    for claim in claims:
        desk.claim(claim)
    return desk


def seen(desk):
    return desk.mirrors.text, {name: desk.thing(name) for name in desk.names}, desk.claims, desk.changes


def all_seen(desk):
    """What is seen of a desk from now back to the first change; all is taken back."""
    told = [seen(desk)]
    while desk.changes:
        desk.undo()
        told.append(seen(desk))
    return told


class PlainDesk:
    """What a desk of short words must do, by a plain search; `refused` tells the error instead of raising it."""

    def __init__(self, mirrors):
        self.plain = Plain(mirrors, 4)
        self.mirrors, self.words, self.claims, self.past, self.refused = mirrors, {}, (), [], None

    def do(self, method, *given):
        self.refused = None
        words, claims = dict(self.words), self.claims
        if method == "undo":
            return self.undo()
        changed = getattr(self, method)(*given)
        if self.refused is None:
            self.past.append((words, claims))
            self.words, self.claims = changed
        return self.refused

    def undo(self):
        if not self.past:
            return NothingToUndo, {}
        self.words, self.claims = self.past.pop()

    def put(self, name, word):
        changed = {**self.words, name: word}
        self.check(changed, self.claims)
        return changed, self.claims

    def drop(self, name):
        if name not in self.words:
            self.refused = UnknownName, {"given": name}
            return None
        used = [k for k, claim in enumerate(self.claims) if name in claim[1:]]
        if used:
            self.refused = InUse, {"index": used[0]}
        return {x: y for x, y in self.words.items() if x != name}, self.claims

    def claim(self, claim):
        for name in claim[1:] if claim[0] != "length" else claim[1:2]:
            if name not in self.words:
                self.refused = UnknownName, {"given": name}
                return None
        self.check(self.words, self.claims + (claim,))
        return self.words, self.claims + (claim,)

    def lift(self, index):
        if not 0 <= index < len(self.claims):
            self.refused = InvalidIndex, {"given": index}
        return self.words, self.claims[:index] + self.claims[index + 1:]

    def check(self, words, claims):
        for index, claim in enumerate(claims):
            right, shown = self.outcome(words, *claim)
            if not right:
                self.refused = Broken, {"index": index, "shown": shown}
                return

    def outcome(self, words, kind, name, last):
        if kind == "length":
            return self.plain.length(words[name]) == last, self.plain.length(words[name])
        one, other = words[name], words[last]
        if kind == "under":
            return self.plain.is_under(one, other), None
        alike = self.plain.first(one) == self.plain.first(other)
        if kind == "unlike":
            return not alike, None
        sent = zip(self.mirrors.letters, rows_of(self.mirrors, one), rows_of(self.mirrors, other))
        return alike, None if alike else [x for x, row, mate in sent if row != mate][0]


class InterfaceTest(Case):
    def test_parameters(self):
        self.is_listed(Desk, "braidwords.desks", ["mirrors"])
        desk = Desk(THREE)
        for name, parameters in {
            "put": ["name", "word"], "thing": ["name"], "drop": ["name"], "claim": ["claim"], "lift": ["index"],
            "undo": [], "trial": [], "tried": ["action"],
        }.items():
            self.is_listed(getattr(desk, name), "braidwords.desks", parameters)
            self.assertIn(name, vars(Desk))
        self.assertIn("__contains__", vars(Desk))
        for name in ("mirrors", "names", "claims", "changes"):
            self.assertIsInstance(vars(Desk)[name], property)

    def test_arguments_by_name(self):
        desk = Desk(mirrors=THREE)
        self.assertIsNone(desk.put(word="aba", name="x"))
        self.assertEqual(desk.thing(name="x"), "aba")
        self.assertIsNone(desk.claim(claim=("length", "x", 3)))
        self.assertIsNone(desk.lift(index=0))
        self.assertIsNone(desk.drop(name="x"))
        self.assertEqual(desk.tried(action=lambda told: told.changes), 4)

    def test_properties_are_not_assigned(self):
        desk = Desk(THREE)
        for name in ("mirrors", "names", "claims", "changes"):
            with self.assertRaises(AttributeError):
                setattr(desk, name, getattr(desk, name))

    def test_a_new_one(self):
        for mirrors in some_mirrors():
            desk = Desk(mirrors)
            self.same((desk.names, desk.claims, desk.changes), ((), (), 0))
            self.assertEqual(desk.mirrors, mirrors)
            self.assertIs(type(desk.mirrors), Mirrors)
            self.refuses(NothingToUndo, {}, desk.undo)
            for index in (0, -1, None):
                self.refuses(InvalidIndex, {"given": index}, desk.lift, index)
            self.refuses(UnknownName, {"given": "x"}, desk.thing, "x")
            self.refuses(UnknownName, {"given": "x"}, desk.drop, "x")

    def test_no_mirrors(self):
        self.refused(Desk, ("mirrors", THREE, wrong_mirrors()))
        self.refuses(NotMirrors, {"given": Desk}, Desk, Desk)

    def test_objects(self):
        desk, other = Desk(THREE), Desk(THREE)
        self.equals_itself_alone(desk, other, THREE, Board(THREE), Desk)
        desk.put("x", "a")
        self.equals_itself_alone(desk, other)


class WordsTest(Case):
    def test_put(self):
        desk = Desk(THREE)
        for k, name in enumerate(GOOD_NAMES):
            self.assertIsNone(desk.put(name, "abc"[:k]))
            self.same((desk.thing(name), desk.changes), ("abc"[:k], k + 1))
            self.same(desk.names, tuple(sorted(GOOD_NAMES[:k + 1])))
        self.same(desk.claims, ())

    def test_words_as_they_are(self):
        for mirrors in (THREE, TWO, all_alike(6, 0), Mirrors(1, ())):
            desk = Desk(mirrors)
            for word in ("", "aa", "a" * 60, (mirrors.letters * 60)[:60], mirrors.letters[::-1]):
                desk.put("x", word)
                self.same(desk.thing("x"), word)

    def test_another_word_and_the_same_one(self):
        desk = Desk(THREE)
        for word in ("ab", "ba", "ba", "ab"):
            self.assertIsNone(desk.put("x", word))
            self.same((desk.names, desk.thing("x")), (("x",), word))
        # The same again is a change, too.
        self.same(desk.changes, 4)
        self.assertEqual([told[1] for told in all_seen(desk)], [{"x": x} for x in ("ab", "ba", "ba", "ab")] + [{}])

    def test_no_names(self):
        for words in ({}, {"x": "ab"}):
            desk = desk_of(THREE, words)
            before = seen(desk)
            for given in NO_NAMES:
                self.refuses(InvalidName, {"given": given}, desk.put, given, "ab")
                self.refuses(InvalidName, {"given": given}, desk.put, given, "abd")
                self.refuses(InvalidName, {"given": given}, desk.put, word=None, name=given)
            self.assertEqual(seen(desk), before)

    def test_no_words(self):
        for mirrors in (THREE, all_alike(6, 0), Mirrors(1, ())):
            desk = desk_of(mirrors, {"x": "a"}, ("length", "x", 1))
            before = seen(desk)
            for given, error, attributes in wrong_words(mirrors.letters):
                for name in ("x", "y"):
                    self.refuses(error, attributes, desk.put, name, given)
                    self.refuses(error, attributes, desk.put, word=given, name=name)
            self.assertEqual(seen(desk), before)

    def test_name_word_broken_in_this_order(self):
        desk = desk_of(THREE, {"x": "ab"}, ("length", "x", 2))
        self.refuses(InvalidName, {"given": "X"}, desk.put, "X", "abd")
        self.refuses(InvalidWord, {"given": "abd"}, desk.put, "x", "abd")
        self.refuses(Broken, {"index": 0, "shown": 3}, desk.put, "x", "aba")

    def test_unknown_names(self):
        desk = desk_of(THREE, {"x": "ab", "y": ""})
        before = seen(desk)
        for given in [*ANYTHING, *NO_NAMES, "xy", "z", "xx", " x", "x ", "X", ("x",), ["x"], b"x", "x\n"]:
            for method in (desk.thing, desk.drop):
                self.refuses(UnknownName, {"given": given}, method, given)
                self.refuses(UnknownName, {"given": given}, method, name=given)
        self.assertEqual(seen(desk), before)

    def test_drop(self):
        desk = desk_of(THREE, {"x": "ab", "y": "", "z": "c"})
        self.assertIsNone(desk.drop("y"))
        self.same((desk.names, desk.changes), (("x", "z"), 4))
        self.refuses(UnknownName, {"given": "y"}, desk.drop, "y")
        self.refuses(UnknownName, {"given": "y"}, desk.thing, "y")
        desk.undo()
        self.same((desk.names, desk.thing("y")), (("x", "y", "z"), ""))
        for name in "xyz":
            desk.drop(name)
        self.same((desk.names, desk.changes), ((), 6))

    def test_in_use(self):
        desk = desk_of(
            THREE, {"v": "b", "w": "a", "x": "ab", "y": "ab", "z": "c"}, ("alike", "x", "y"), ("length", "z", 1),
            ("unlike", "y", "z"), ("under", "w", "x"), ("alike", "z", "z"))
        before = seen(desk)
        for name, index in (("x", 0), ("y", 0), ("z", 1), ("w", 3)):
            self.refuses(InUse, {"index": index}, desk.drop, name)
            self.refuses(InUse, {"index": index}, desk.drop, name=name)
        self.assertEqual(seen(desk), before)
        self.assertIsNone(desk.drop("v"))
        desk.lift(0)
        for name, index in (("y", 1), ("z", 0), ("x", 2), ("w", 2)):
            self.refuses(InUse, {"index": index}, desk.drop, name)
        desk.lift(2)
        self.assertIsNone(desk.drop("x"))
        self.assertIsNone(desk.drop("w"))
        self.same(desk.names, ("y", "z"))

    def test_in(self):
        desk = desk_of(THREE, {"x": "ab", "ab": ""})
        self.assertIs("x" in desk, True)
        self.assertIs("ab" in desk, True)
        self.assertIs("x" not in desk, False)
        for value in [*[x for x in ANYTHING if not (isinstance(x, str) and x == "ab")], "xa", "a", "b", ("x",), ["x"],
                      {"x"}, {"x": 1}, [[]], "X", desk, THREE, b"x"]:
            self.assertIs(value in desk, False)
            self.assertIs(value not in desk, True)
        desk.drop("x")
        self.assertIs("x" in desk, False)
        desk.undo()
        self.assertIs("x" in desk, True)

    def test_the_names_of_one_and_eight_letters(self):
        desk = Desk(THREE)
        for name in ("q", "abcdefgh"):
            desk.put(name, "a")
            self.assertIs(name in desk, True)
        for name in ("", "abcdefghi"):
            self.refuses(InvalidName, {"given": name}, desk.put, name, "a")
        desk.claim(("alike", "q", "abcdefgh"))
        self.same(desk.claims, (("alike", "q", "abcdefgh"),))


class ClaimsTest(Case):
    def test_each_with_each_outcome(self):
        desk = desk_of(THREE, {"e": "", "ab": "ab", "aba": "aba", "bab": "bab", "abab": "abab", "ba": "ba", "c": "c"})
        for claim, shown in [
            (("alike", "aba", "bab"), "holds"), (("alike", "abab", "ba"), "holds"), (("alike", "ab", "ba"), "a"),
            (("alike", "e", "c"), "b"), (("alike", "c", "e"), "b"), (("alike", "ab", "aba"), "a"),
            (("unlike", "ab", "ba"), "holds"), (("unlike", "aba", "bab"), None), (("unlike", "abab", "ba"), None),
            (("under", "ab", "bab"), "holds"), (("under", "ba", "aba"), "holds"), (("under", "abab", "ba"), "holds"),
            (("under", "e", "e"), "holds"), (("under", "e", "c"), "holds"), (("under", "c", "e"), None),
            (("under", "ab", "ba"), None), (("under", "c", "aba"), None),
            (("length", "e", 0), "holds"), (("length", "abab", 2), "holds"), (("length", "abab", 4), 2),
            (("length", "aba", 2), 3), (("length", "e", 60), 0), (("length", "c", 0), 1),
        ]:
            before = seen(desk)
            if shown == "holds":
                self.assertIsNone(desk.claim(claim))
                self.same(desk.claims, before[2] + (claim,))
                self.same(desk.changes, before[3] + 1)
            else:
                told = {"index": len(before[2]), "shown": shown}
                self.refuses(Broken, told, desk.claim, claim)
                self.refuses(Broken, told, desk.claim, claim=claim)
                self.assertEqual(seen(desk), before)

    def test_lengths_0_and_60(self):
        desk = desk_of(TWO, {"x": "ab" * 30, "y": "aa" * 30, "z": "ab" * 29 + "a"})
        for claim in (("length", "x", 60), ("length", "y", 0), ("length", "z", 59)):
            self.assertIsNone(desk.claim(claim))
        self.refuses(Broken, {"index": 3, "shown": 60}, desk.claim, ("length", "x", 0))
        self.refuses(Broken, {"index": 3, "shown": 0}, desk.claim, ("length", "y", 60))
        for n in (-1, 61, True, False):
            self.refuses(InvalidClaim, {"given": ("length", "x", n)}, desk.claim, ("length", "x", n))
        # True is no 1, although Python thinks so.
        desk.put("a", "a")
        self.refuses(InvalidClaim, {"given": ("length", "a", True)}, desk.claim, ("length", "a", True))

    def test_no_claims(self):
        for words in ({}, {"x": "a", "y": "b"}):
            desk = desk_of(THREE, words)
            before = seen(desk)
            for given in NO_CLAIMS:
                self.refuses(InvalidClaim, {"given": given}, desk.claim, given)
                self.refuses(InvalidClaim, {"given": given}, desk.claim, claim=given)
            self.assertEqual(seen(desk), before)

    def test_unknown_names(self):
        desk = desk_of(THREE, {"x": "a", "y": "b"})
        before = seen(desk)
        for k, value in enumerate(ANYTHING):
            other = ANYTHING[k - 1]
            for kind in ("alike", "unlike", "under"):
                for claim in ((kind, value, "x"), (kind, "x", value), (kind, value, other), (kind, value, value)):
                    self.refuses(UnknownName, {"given": value}, desk.claim, claim)
            for n in (0, 1, 60):
                self.refuses(UnknownName, {"given": value}, desk.claim, ("length", value, n))
        self.assertEqual(seen(desk), before)

    def test_claim_name_broken_in_this_order(self):
        desk = desk_of(THREE, {"x": "a", "y": "b"})
        self.refuses(InvalidClaim, {"given": ("length", "z", 61)}, desk.claim, ("length", "z", 61))
        self.refuses(InvalidClaim, {"given": ("alike", "z")}, desk.claim, ("alike", "z"))
        self.refuses(UnknownName, {"given": "z"}, desk.claim, ("length", "z", 60))
        self.refuses(UnknownName, {"given": "z"}, desk.claim, ("alike", "x", "z"))
        self.refuses(Broken, {"index": 0, "shown": "a"}, desk.claim, ("alike", "x", "y"))

    def test_one_word_twice(self):
        for word in ("", "a", "abab"):
            desk = desk_of(THREE, {"x": word})
            self.assertIsNone(desk.claim(("alike", "x", "x")))
            self.assertIsNone(desk.claim(("under", "x", "x")))
            self.refuses(Broken, {"index": 2, "shown": None}, desk.claim, ("unlike", "x", "x"))
            self.refuses(InUse, {"index": 0}, desk.drop, "x")
            self.assertIsNone(desk.put("x", "bc"))

    def test_the_same_claim_twice(self):
        desk = desk_of(THREE, {"x": "ab"}, ("length", "x", 2), ("length", "x", 2))
        self.same(desk.claims, (("length", "x", 2),) * 2)
        self.refuses(Broken, {"index": 0, "shown": 1}, desk.put, "x", "a")
        desk.lift(0)
        self.refuses(Broken, {"index": 0, "shown": 1}, desk.put, "x", "a")
        desk.lift(0)
        self.assertIsNone(desk.put("x", "a"))

    def test_a_word_that_breaks_a_claim(self):
        words = {"v": "", "w": "c", "x": "aba", "y": "bab", "z": "ab"}
        claims = (
            ("under", "z", "x"), ("alike", "x", "y"), ("unlike", "y", "z"), ("length", "w", 1), ("length", "y", 3))
        desk = desk_of(THREE, words, *claims)
        before = seen(desk)
        for name, word, index, shown in [
            ("x", "c", 0, None), ("x", "ab", 1, "a"), ("x", "abab", 0, None), ("y", "ab", 1, "a"), ("y", "", 1, "a"),
            ("z", "c", 0, None), ("z", "aba", 2, None), ("z", "bab", 2, None), ("w", "cb", 3, 2), ("w", "", 3, 0),
            ("x", "abac", 1, "b"), ("z", "cabac", 0, None), ("w", "bb", 3, 0), ("w", "aba", 3, 3),
        ]:
            self.refuses(Broken, {"index": index, "shown": shown}, desk.put, name, word)
            self.refuses(Broken, {"index": index, "shown": shown}, desk.put, word=word, name=name)
            self.assertEqual(seen(desk), before)
        for name, word in [("x", "bab"), ("y", "aba"), ("z", "ba"), ("z", ""), ("w", "b"), ("w", "ababa"), ("v", "c")]:
            self.assertIsNone(desk.put(name, word))
        self.same(desk.claims, claims)
        # Only names that no claim has are free.
        self.assertIsNone(desk.put("u", "abcabc"))

    def test_lift(self):
        claims = (("length", "x", 2), ("alike", "x", "x"), ("under", "y", "x"))
        desk = desk_of(THREE, {"x": "ab", "y": "b"}, *claims)
        before = seen(desk)
        for given in [*[x for x in ANYTHING if type(x) is not int], -1, -3, 3, 4, 10 ** 59, "0", (0,)]:
            self.refuses(InvalidIndex, {"given": given}, desk.lift, given)
            self.refuses(InvalidIndex, {"given": given}, desk.lift, index=given)
        self.assertEqual(seen(desk), before)
        for index in range(3):
            self.assertIsNone(desk.lift(index))
            self.same(desk.claims, claims[:index] + claims[index + 1:])
            desk.undo()
            self.same(desk.claims, claims)
        self.assertIsNone(desk.lift(0))
        self.assertIsNone(desk.put("x", "bab"))
        for _ in range(2):
            desk.lift(0)
        self.same(desk.claims, ())
        self.refuses(InvalidIndex, {"given": 0}, desk.lift, 0)

    def test_what_is_returned_does_not_change(self):
        desk = desk_of(THREE, {"x": "ab"}, ("length", "x", 2))
        names, claims = desk.names, desk.claims
        desk.lift(0)
        desk.put("y", "c")
        desk.drop("x")
        self.same((names, claims), (("x",), (("length", "x", 2),)))
        given = ["alike", "y", "y"]
        self.refuses(InvalidClaim, {"given": given}, desk.claim, given)
        self.assertEqual(given, ["alike", "y", "y"])

    def test_words_of_60_letters(self):
        draw = random.Random(70)
        for mirrors in map(Mirrors.read, ENDLESS[:12]):
            word = drawn_word(draw, mirrors.letters, 60)
            near, other = walked(draw, mirrors, word, 20), drawn_word(draw, mirrors.letters, 60)
            first = first_word(mirrors, word)
            desk = desk_of(mirrors, {"x": word, "y": near, "z": other, "first": first, "part": first[:-1]})
            self.assertIsNone(desk.claim(("alike", "x", "y")))
            self.assertIsNone(desk.claim(("length", "y", len(first))))
            self.assertIsNone(desk.claim(("under", "part", "x")))
            if is_under(mirrors, other, word):
                self.assertIsNone(desk.claim(("under", "z", "x")))
                desk.undo()
            else:
                self.refuses(Broken, {"index": 3, "shown": None}, desk.claim, ("under", "z", "x"))
            self.refuses(Broken, {"index": 3, "shown": len(first)}, desk.claim, ("length", "x", (len(first) + 1) % 61))
            sent = zip(mirrors.letters, rows_of(mirrors, other), rows_of(mirrors, near))
            unlike = [x for x, row, mate in sent if row != mate]
            if unlike:
                self.refuses(Broken, {"index": 0, "shown": unlike[0]}, desk.put, "x", other)
            else:
                self.assertIsNone(desk.put("x", other))


class UndoTest(Case):
    def test_all_one_by_one(self):
        desk = Desk(THREE)
        told = [seen(desk)]
        for method, given in [
            ("put", ("x", "aba")), ("put", ("y", "bab")), ("claim", (("alike", "x", "y"),)), ("put", ("x", "aba")),
            ("claim", (("length", "x", 3),)), ("put", ("z", "")), ("drop", ("z",)), ("lift", (0,)), ("put", ("y", "c")),
            ("drop", ("y",)), ("put", ("x", "cba")), ("lift", (0,)), ("drop", ("x",)),
        ]:
            self.assertIsNone(getattr(desk, method)(*given))
            told.append(seen(desk))
        self.same(desk.changes, 13)
        self.assertEqual(all_seen(desk), told[::-1])
        for _ in range(2):
            self.refuses(NothingToUndo, {}, desk.undo)
        self.assertEqual(seen(desk), (THREE.text, {}, (), 0))

    def test_a_refused_change_is_none(self):
        desk = desk_of(THREE, {"x": "aba"}, ("length", "x", 3))
        for method, given in [
            ("put", ("x", "")), ("put", ("X", "")), ("drop", ("x",)), ("drop", ("y",)), ("lift", (1,)),
            ("claim", (("length", "x", 2),)), ("claim", (None,)), ("thing", ("y",)),
        ]:
            with self.assertRaises((ValueError, LookupError, ArithmeticError)):
                getattr(desk, method)(*given)
        self.same(desk.changes, 2)
        desk.undo()
        self.same((desk.claims, desk.thing("x")), ((), "aba"))

    def test_against_a_plain_one(self):
        draw = random.Random(71)
        tried = {}
        for mirrors in [*small_mirrors()[::3], *some_mirrors()[-75::15]]:
            plain, desk = PlainDesk(mirrors), Desk(mirrors)
            words = plain.plain.words[:40]
            told = [seen(desk)]
            for _ in range(60):
                name, mate = draw.choice("uvwx"), draw.choice("uvwx")
                method, given = draw.choice([
                    ("put", (name, draw.choice(words))), ("put", (name, draw.choice(words))), ("drop", (name,)),
                    ("claim", ((draw.choice(("alike", "unlike", "under")), name, mate),)),
                    ("claim", (("length", name, draw.randint(0, 3)),)), ("lift", (draw.randint(-1, 3),)), ("undo", ()),
                ])
                right = plain.do(method, *given)
                if right is None:
                    self.assertIsNone(getattr(desk, method)(*given))
                    told = told[:-1] if method == "undo" else told + [seen(desk)]
                else:
                    self.refuses(*right, getattr(desk, method), *given)
                tried[method, right and right[0]] = True
                self.assertEqual(seen(desk), (mirrors.text, plain.words, plain.claims, len(plain.past)))
                self.assertEqual(seen(desk), told[-1])
                self.assertEqual([x in desk for x in "uvwx"], [x in plain.words for x in "uvwx"])
            self.assertEqual(all_seen(desk), told[::-1])
        for key in [
            ("put", None), ("put", Broken), ("drop", None), ("drop", InUse), ("drop", UnknownName), ("claim", None),
            ("claim", Broken), ("claim", UnknownName), ("lift", None), ("lift", InvalidIndex), ("undo", None),
        ]:
            self.assertIn(key, tried)

    def test_two_desks_side_by_side(self):
        one, other = Desk(THREE), Desk(THREE)
        one.put("x", "a")
        other.put("y", "b")
        other.claim(("length", "y", 1))
        one.put("y", "abc")
        self.assertEqual(seen(one), (THREE.text, {"x": "a", "y": "abc"}, (), 2))
        self.assertEqual(seen(other), (THREE.text, {"y": "b"}, (("length", "y", 1),), 2))
        one.undo()
        one.undo()
        self.refuses(NothingToUndo, {}, one.undo)
        self.assertEqual(seen(other), (THREE.text, {"y": "b"}, (("length", "y", 1),), 2))


class TrialTest(Case):
    def a_desk(self):
        desk = desk_of(THREE, {"x": "aba", "y": "c"}, ("length", "x", 3))
        desk.put("z", "")
        desk.undo()
        return desk

    def changing(self, desk):
        while desk.changes:
            desk.undo()
        desk.put("x", "b")
        desk.put("y", "abc")
        desk.claim(("unlike", "x", "y"))
        desk.put("x", "ca")

    def test_rows_that_end_well(self):
        desk = self.a_desk()
        plain = self.a_desk()
        self.changing(plain)
        with desk.trial() as told:
            self.assertIs(told, desk)
            self.changing(desk)
        # What was done stays and can be taken back.
        self.assertEqual(all_seen(desk), all_seen(plain))

    def test_a_return_a_break_and_a_continue(self):
        desk, plain = self.a_desk(), self.a_desk()

        def leaving():
            with desk.trial():
                self.changing(desk)
                return "left"

        self.assertEqual(leaving(), "left")
        self.changing(plain)
        for k in range(3):
            plain.put("w", "b" * k)
            with desk.trial():
                desk.put("w", "b" * k)
                if k == 1:
                    continue
                if k == 2:
                    break
        self.assertEqual(all_seen(desk), all_seen(plain))

    def test_an_exception_takes_all_back(self):
        right = all_seen(self.a_desk())
        for error in (Stop("x"), ValueError("x"), KeyboardInterrupt(), GeneratorExit(), StopIteration(), InUse(0)):
            desk = self.a_desk()
            with self.assertRaises(type(error)) as caught:
                with desk.trial():
                    self.changing(desk)
                    raise error
            self.assertIs(caught.exception, error)
            self.assertEqual(all_seen(desk), right)
            self.refuses(NothingToUndo, {}, desk.undo)

    def test_errors_of_the_desk(self):
        desk = self.a_desk()
        with self.assertRaises(Broken):
            with desk.trial():
                desk.put("z", "ab")
                desk.put("x", "")
        with self.assertRaises(NothingToUndo):
            with desk.trial():
                while True:
                    desk.undo()
        self.assertEqual(all_seen(desk), all_seen(self.a_desk()))

    def test_one_within_another(self):
        desk, plain = self.a_desk(), self.a_desk()
        with desk.trial():
            desk.put("z", "a")
            with self.assertRaises(Stop):
                with desk.trial():
                    self.changing(desk)
                    raise Stop()
            self.assertEqual(desk.thing("z"), "a")
            with desk.trial():
                desk.put("z", "b")
        plain.put("z", "a")
        plain.put("z", "b")
        self.assertEqual(all_seen(desk), all_seen(plain))
        desk = self.a_desk()
        with self.assertRaises(Stop):
            with desk.trial():
                with desk.trial():
                    self.changing(desk)
                raise Stop()
        self.assertEqual(all_seen(desk), all_seen(self.a_desk()))

    def test_used_again(self):
        desk = self.a_desk()
        trial = desk.trial()
        desk.put("v", "a")
        for k in range(3):
            with trial as told:
                self.assertIs(told, desk)
                desk.put("v", "b" * k)
            before = seen(desk)
            with self.assertRaises(Stop):
                with trial:
                    self.changing(desk)
                    raise Stop()
            self.assertEqual(seen(desk), before)
        self.assertEqual([told[1].get("v") for told in all_seen(desk)], ["bb", "b", "", "a", None, None, None, None])

    def test_used_within_itself(self):
        desk = self.a_desk()
        trial = desk.trial()
        with trial:
            desk.put("v", "a")
            with trial:
                desk.put("v", "b")
                with self.assertRaises(Stop):
                    with trial:
                        self.changing(desk)
                        raise Stop()
                self.assertEqual(desk.thing("v"), "b")
            with self.assertRaises(Stop):
                with trial:
                    with trial:
                        self.changing(desk)
                    raise Stop()
            self.assertEqual(desk.thing("v"), "b")
        self.assertEqual([told[1].get("v") for told in all_seen(desk)], ["b", "a", None, None, None, None])
        desk = self.a_desk()
        trial = desk.trial()
        with self.assertRaises(Stop):
            with trial:
                desk.put("v", "a")
                with trial:
                    desk.put("v", "b")
                raise Stop()
        self.assertEqual(all_seen(desk), all_seen(self.a_desk()))

    def test_tried(self):
        desk, plain = self.a_desk(), self.a_desk()
        self.changing(plain)

        def action(told):
            self.assertIs(told, desk)
            self.changing(told)
            return told

        self.assertIs(desk.tried(action), desk)
        for value in [*ANYTHING, desk]:
            self.assertIs(desk.tried(lambda told, value=value: value), value)
        self.assertEqual(desk.tried(lambda told: told.tried(lambda more: more.put("w", "a") or more.names)), (
            "w", "x", "y"))
        plain.put("w", "a")
        self.assertEqual(all_seen(desk), all_seen(plain))

    def test_tried_with_an_exception(self):
        desk, error = self.a_desk(), Stop("x")

        def action(told):
            self.changing(told)
            raise error

        with self.assertRaises(Stop) as caught:
            desk.tried(action)
        self.assertIs(caught.exception, error)
        self.refuses(UnknownName, {"given": "q"}, desk.tried, lambda told: (self.changing(told), told.drop("q")))
        self.assertEqual(all_seen(desk), all_seen(self.a_desk()))


if __name__ == "__main__":
    unittest.main()
