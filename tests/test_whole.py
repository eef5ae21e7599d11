"""What holds over the whole program: points [1] to [5] and the interface."""

import copy
import importlib
import inspect
import random
import re
import unittest

from braidwords.beginnings import common, how_many_beginnings, is_beginning
from braidwords.boards import Board
from braidwords.certificates import certify_alike, certify_order, certify_shortest, certify_under
from braidwords.checker import accepts
from braidwords.console import Console
from braidwords.counting import how_many, nth_word, place_of
from braidwords.desks import Desk
from braidwords.elements import is_finite, longest, of_length, order, up_to
from braidwords.learning import fitting, judge
from braidwords.lengths import first_word, is_shortest, left_shorteners, length, shorteners, struck
from braidwords.lots import inner, is_part, parted, support, word_of_rows
from braidwords.mirrors import Mirrors, angle, part
from braidwords.moves import fewest_turnings, path, steps, strikings, turnings
from braidwords.sending import is_alike, order_of, rows_of, send, turned_rows, unlike_letter
from braidwords.under import how_many_under, is_under, just_under, part_word
from helper import Case, some_mirrors

# The examples of the document, as it gives them.
EXAMPLES = r"""
>>> from braidwords.mirrors import Mirrors, angle, part
>>> three, ring, two = Mirrors(3, (("a", "b", 3), ("b", "c", 3))), Mirrors.read("abc ab3 ac3 bc3"), Mirrors.read("ab ab0")
>>> [three.text, three.letters, ring.angles, angle(three, "c", "a"), angle(two, "b", "a"), angle(two, "a", "a"), part(three, "ac").text, part(three, "bc").text, repr(two)]
['abc ab3 bc3', 'abc', (('a', 'b', 3), ('a', 'c', 3), ('b', 'c', 3)), 2, 0, 1, 'ab', 'ab ab3', 'Mirrors of 2 letters']
>>> Mirrors(2, (("a", "b", 5),))
raises InvalidAngles(index=0)
>>> from braidwords.sending import is_alike, order_of, rows_of, send, turned_rows, unlike_letter
>>> [send(three, "ab", (1, 0, 0)), rows_of(two, "ab"), is_alike(three, "aba", "bab"), is_alike(two, "aba", "bab"), unlike_letter(two, "aba", "bab"), unlike_letter(three, "ac", "ca")]
[(0, 1, 0), ((3, 2), (-2, -1)), True, False, 'a', None]
>>> [turned_rows(three, "ab"), turned_rows(three, ""), order_of(three, "ab"), order_of(three, "abc"), order_of(two, "ab"), order_of(two, "aba"), order_of(two, "")]
[((0, 1, 0), (1, 1, 0)), (), 3, 4, None, 2, 1]
>>> from braidwords.lengths import first_word, is_shortest, left_shorteners, length, shorteners, struck
>>> [length(three, "abab"), first_word(three, "abab"), struck(three, "abab"), is_shortest(three, "abcab"), struck(three, "aba"), struck(two, "abba")]
[2, 'ba', (0, 3), True, None, (0, 3)]
>>> [shorteners(three, "aba"), left_shorteners(three, "abc"), shorteners(three, ""), first_word(three, "cbacba"), length(ring, "abcabc")]
['ab', 'a', '', 'bacb', 6]
>>> from braidwords.moves import fewest_turnings, path, steps, strikings, turnings
>>> [turnings(three, "acab"), strikings(three, "abba"), strikings(two, "aaa"), turnings(two, "abab"), steps(two, "abba")[0], steps(two, "abba")[-1], steps(three, "cab")[-1]]
[('aacb', 'caab'), ('aa',), ('a',), (), 'abba', '', 'acb']
>>> [fewest_turnings(three, "aba", "bab"), fewest_turnings(three, "cab", "acb"), fewest_turnings(three, "abac", "babc"), path(three, "abab", "ba")[0], path(three, "abab", "ba")[-1]]
[1, 1, 1, 'abab', 'ba']
>>> from braidwords.counting import how_many, nth_word, place_of
>>> [how_many(three, "abacba"), nth_word(three, "abacba", 0), nth_word(three, "abacba", 15), place_of(three, "cbcabc"), how_many(three, "abab"), how_many(two, "ababab"), how_many(ring, "abcabc")]
[16, 'abacba', 'cbcabc', 15, 1, 1, 1]
>>> from braidwords.elements import is_finite, longest, of_length, order, up_to
>>> [is_finite(three), is_finite(ring), order(three), order(two), longest(three), longest(ring), order(Mirrors.read("ab ab6")), longest(Mirrors.read("ab ab4"))]
[True, False, 24, None, 'abacba', None, 12, 'abab']
>>> [of_length(three, 0), of_length(three, 2), of_length(three, 3), of_length(three, 7), of_length(ring, 3), of_length(ring, 200), of_length(two, 200), up_to(ring, 3), up_to(three, 200)]
[1, 5, 6, 0, 9, 600, 2, 19, 24]
>>> from braidwords.under import how_many_under, is_under, just_under, part_word
>>> [is_under(three, "ac", "abc"), is_under(three, "ca", "abc"), is_under(three, "ba", "ab"), part_word(three, "ac", "abc"), how_many_under(three, "aba"), how_many_under(three, "abacba"), just_under(three, "abc"), how_many_under(two, "abab")]
[True, True, False, (0, 2), 6, 24, ('ab', 'ac', 'bc'), 8]
>>> from braidwords.beginnings import common, how_many_beginnings, is_beginning
>>> [is_beginning(three, "ab", "abcb"), is_beginning(three, "cb", "abcb"), is_beginning(three, "ca", "abcb"), is_beginning(two, "", "ab"), common(three, "abc", "bab"), common(three, "abcb", "cac"), common(two, "ab", "ba")]
[True, False, True, True, 'ab', 'a', '']
>>> [how_many_beginnings(three, "aba"), how_many_beginnings(three, "abc"), how_many_beginnings(three, "abacba"), how_many_beginnings(two, "abab")]
[6, 4, 24, 5]
>>> from braidwords.lots import inner, is_part, parted, support, word_of_rows
>>> [parted(three, "cab", "ab"), parted(three, "abacba", "ab"), parted(three, "cab", ""), inner(three, "a", "abc", "c"), inner(three, "ab", "abacba", "ab"), is_part(three, "cac", "ab"), support(three, "abcb"), support(three, "abab")]
[('c', 'ab'), ('abc', 'aba'), ('acb', ''), 'b', 'c', True, 'abc', 'ab']
>>> [word_of_rows(three, ((1, 1, 0), (0, 1, 0))), word_of_rows(three, ((1, 1, 0),)), word_of_rows(three, ()), word_of_rows(two, turned_rows(two, "babab"))]
['ab', None, '', 'babab']
>>> from braidwords.learning import fitting, judge
>>> pair = Mirrors.read("ab")
>>> [fitting(pair, ("ab",), (("aba", "bab", True),))[0].text, len(fitting(pair, ("ab",), (("abab", "baba", True),))), fitting(pair, ("ab",), (("abab", "baba", True),))[1].text, len(fitting(three, ("ab", "bc"), ())), fitting(pair, (), (("ab", "ba", False),))]
['ab ab3', 2, 'ab ab4', 25, ()]
>>> [judge(pair, ("ab",), (("aba", "bab", True),), "abab", "ba"), judge(pair, ("ab",), (("abab", "baba", True),), "ab", "ba"), judge(pair, ("ab",), (("ab", "ba", False),), "aba", "b")]
['alike', 'open', 'unlike']
>>> from braidwords.boards import Board
>>> board = Board(three)
>>> [board.put("a"), board.put("b"), board.put("a"), board.turn(0), board.word, board.put("b"), board.strike(2), board.word, board.length, board.undo(), board.word, board.changes]
[None, None, None, None, 'bab', None, None, 'ba', 2, None, 'babb', 5]
>>> board.turn(3)
raises NoMove()
>>> from braidwords.console import Console
>>> console = Console(three)
>>> [console.run("word x abab"), console.run("word y ba"), console.run("alike x y"), console.run("first x"), console.run("many y"), console.run("claim alike x y"), console.run("order")]
['ok', 'ok', 'yes', 'ba', '1', 'ok', '24']
>>> console.run("word y ab")
raises Broken(index=0, shown='a')
>>> from braidwords.certificates import certify_alike, certify_order, certify_shortest, certify_under
>>> from braidwords.checker import accepts
>>> [certify_alike(two, "aba", "bab")[0], certify_alike(three, "aba", "bab")[0][0], certify_shortest(three, "ab"), certify_under(three, "ac", "abc")[1], certify_order(three), certify_order(two)[0][0]]
[('unlike', 'ab ab0', 'aba', 'bab'), 'alike', (('shortest', 'abc ab3 bc3', 'ab'), ()), (0, 2), (('finite', 'abc ab3 bc3', 24), ()), 'endless']
>>> [accepts(("alike", "ab ab3", "aba", "bab"), ("aba", "bab")), accepts(("alike", "ab ab4", "aba", "bab"), ("aba", "bab")), accepts(("unlike", "ab ab4", "aba", "bab"), "a"), accepts(("finite", "ab ab6", 12), ())]
[True, False, True, True]
"""

# All functions and methods of the interface: the module, the name and the parameters.
INTERFACE = {
    "mirrors": {"Mirrors": "size angles", "Mirrors.read": "text", "angle": "mirrors letter mate", "part": "mirrors lot"},
    "sending": {
        "send": "mirrors word row", "rows_of": "mirrors word", "is_alike": "mirrors one other",
        "unlike_letter": "mirrors one other", "turned_rows": "mirrors word", "order_of": "mirrors word",
    },
    "lengths": {
        name: "mirrors word" for name in (
            "length", "is_shortest", "first_word", "struck", "shorteners", "left_shorteners")
    },
    "moves": {
        "turnings": "mirrors word", "strikings": "mirrors word", "steps": "mirrors word",
        "fewest_turnings": "mirrors one other", "path": "mirrors one other",
    },
    "counting": {"how_many": "mirrors word", "nth_word": "mirrors word index", "place_of": "mirrors word"},
    "elements": {
        "is_finite": "mirrors", "order": "mirrors", "longest": "mirrors", "of_length": "mirrors length",
        "up_to": "mirrors length",
    },
    "under": {
        "is_under": "mirrors one other", "part_word": "mirrors one other", "how_many_under": "mirrors word",
        "just_under": "mirrors word",
    },
    "beginnings": {
        "is_beginning": "mirrors one other", "common": "mirrors one other", "how_many_beginnings": "mirrors word",
    },
    "lots": {
        "parted": "mirrors word lot", "inner": "mirrors lot word rest", "is_part": "mirrors word lot",
        "support": "mirrors word", "word_of_rows": "mirrors rows",
    },
    "learning": {"fitting": "mirrors unknown told", "judge": "mirrors unknown told one other"},
    "boards": {
        "Board": "mirrors", "Board.put": "self letter", "Board.turn": "self index", "Board.strike": "self index",
        "Board.shorten": "self", "Board.undo": "self", "Board.trial": "self", "Board.tried": "self action",
    },
    "desks": {
        "Desk": "mirrors", "Desk.put": "self name word", "Desk.thing": "self name", "Desk.drop": "self name",
        "Desk.claim": "self claim", "Desk.lift": "self index", "Desk.undo": "self", "Desk.trial": "self",
        "Desk.tried": "self action",
    },
    "console": {"Console": "mirrors", "Console.run": "self command"},
    "checker": {"accepts": "claim paper"},
    "certificates": {
        "certify_alike": "mirrors one other", "certify_shortest": "mirrors word", "certify_under": "mirrors one other",
        "certify_order": "mirrors",
    },
}


def outcome(call, *given):
    """What a call returns or raises."""
    try:
        return "returned", call(*given)
    except (ValueError, LookupError, ArithmeticError) as error:
        return type(error), vars(error)


def questions(mirrors, draw):
    """Calls of all functions, with short words, of which some are refused."""
    words = ["".join(draw.choice(mirrors.letters) for _ in range(draw.randint(0, 7))) for _ in range(3)]
    one, other, word = words[0], draw.choice((words[0][::-1], words[1])), words[2]
    lot = "".join(x for x in mirrors.letters if draw.random() < 0.5)
    rest = "".join(x for x in mirrors.letters if draw.random() < 0.5)
    row = tuple(draw.randint(-3, 3) for _ in mirrors.letters)
    unknown = ("ab",) if mirrors.size > 1 else ()
    told = ((one, other, True), (word, one, False))[:draw.randint(0, 2)]
    first = first_word(mirrors, word)
    for call in (
        rows_of, turned_rows, order_of, length, is_shortest, first_word, struck, shorteners, left_shorteners, turnings,
        strikings, steps, how_many, place_of, how_many_under, just_under, how_many_beginnings, support, certify_shortest,
    ):
        yield call, mirrors, word
        yield call, mirrors, one + "A"
    for call in (
        is_alike, unlike_letter, fewest_turnings, path, is_under, part_word, is_beginning, common, certify_alike,
        certify_under,
    ):
        yield call, mirrors, one, other
        yield call, mirrors, one, first
        yield call, mirrors, first, None
    for call in (is_finite, order, longest, certify_order):
        yield (call, mirrors)
    yield from [
        (Mirrors.read, mirrors.text), (angle, mirrors, "a", mirrors.letters[-1]), (part, mirrors, lot),
        (send, mirrors, word, row), (nth_word, mirrors, word, 1), (of_length, mirrors, 4), (up_to, mirrors, 4),
        (parted, mirrors, word, lot), (inner, mirrors, lot, word, rest), (is_part, mirrors, word, lot),
        (word_of_rows, mirrors, turned_rows(mirrors, word)), (word_of_rows, mirrors, (row,)),
        (fitting, mirrors, unknown, told), (judge, mirrors, unknown, told, one, word),
        (accepts, ("alike", mirrors.text, one, other), (one, other)), (accepts, ("endless", mirrors.text), ()),
        (accepts, *certify_alike(mirrors, one, other)),
    ]


class DocumentTest(Case):
    def test_examples(self):
        told, names, many = EXAMPLES.strip().split("\n"), {}, 0
        for at, line in enumerate(told):
            if line.startswith(">>> "):
                behind = told[at + 1] if at + 1 < len(told) and not told[at + 1].startswith(">>> ") else None
                with self.subTest(line):
                    self.check(line[4:], behind, names)
                many += 1
        self.assertEqual(many, 42)

    def check(self, line, behind, names):
        if behind is None:
            exec(line, names)
        elif behind.startswith("raises "):
            name, attributes = re.fullmatch(r"raises (\w+)\((.*)\)", behind).groups()
            error = getattr(importlib.import_module("braidwords.errors"), name)
            self.refuses(error, eval(f"dict({attributes})"), eval, line, names)
        else:
            self.assertEqual(repr(eval(line, names)), behind)

    def test_the_interface(self):
        for module, told in INTERFACE.items():
            for name, parameters in told.items():
                owner, _, method = name.rpartition(".")
                thing = getattr(importlib.import_module("braidwords." + module), owner or name)
                self.assertEqual(thing.__module__, "braidwords." + module)
                if owner:
                    # Each method stands in the class itself.
                    thing = vars(thing)[method]
                    if isinstance(thing, classmethod):
                        thing = getattr(importlib.import_module("braidwords." + module), owner).read
                self.assertEqual(" ".join(inspect.signature(thing).parameters), parameters)
                for parameter in inspect.signature(thing).parameters.values():
                    self.assertIs(parameter.kind, inspect.Parameter.POSITIONAL_OR_KEYWORD)
                    self.assertIs(parameter.default, inspect.Parameter.empty)


class EqualCallsTest(Case):
    def test_in_any_order(self):
        draw = random.Random(110)
        for mirrors in [told for told in some_mirrors()[::11]]:
            asked = list(questions(mirrors, draw))
            before = [outcome(*question) for question in asked]
            order_asked = list(range(len(asked))) * 2
            draw.shuffle(order_asked)
            for k in order_asked:
                kind, told = outcome(*asked[k])
                self.assertEqual(kind, before[k][0])
                self.same(told, before[k][1])

    def test_with_equal_mirrors(self):
        for mirrors in some_mirrors()[::23]:
            other = Mirrors.read(mirrors.text)
            for one, two in zip(questions(mirrors, random.Random(111)), questions(other, random.Random(111))):
                self.assertEqual(outcome(*one), outcome(*two))

    def test_what_is_passed_stays_as_it_was(self):
        draw = random.Random(112)
        for mirrors in some_mirrors()[::23]:
            text, angles = mirrors.text, mirrors.angles
            for call, *given in questions(mirrors, draw):
                before = copy.deepcopy(given[1:])
                outcome(call, *given)
                self.assertEqual(given[1:], before)
            self.assertEqual((mirrors.text, mirrors.angles), (text, angles))

    def test_with_things_that_change(self):
        mirrors = Mirrors.read("abc ab3 bc3")
        desk, board, console = Desk(mirrors), Board(mirrors), Console(mirrors)
        desk.put("x", "abab")
        board.put("a")
        console.run("word x abab")
        for _ in range(3):
            self.same((desk.thing("x"), desk.names, desk.claims, desk.changes), ("abab", ("x",), (), 1))
            self.same((board.word, board.length, board.changes), ("a", 1, 1))
            self.same((console.run("first x"), console.run("names"), console.run("order")), ("ba", "x", "24"))
            list(map(lambda told: outcome(*told), questions(mirrors, random.Random(113))))
        self.assertEqual(mirrors.text, "abc ab3 bc3")


class PassedOnTest(Case):
    """What is returned may be passed on."""

    def test_all(self):
        draw = random.Random(114)
        for mirrors in some_mirrors()[::9]:
            word = "".join(draw.choice(mirrors.letters) for _ in range(60))
            first = first_word(mirrors, word)
            self.same(word_of_rows(mirrors, turned_rows(mirrors, first)), first)
            for told in (parted(mirrors, word, "a"), steps(mirrors, word), just_under(mirrors, word)):
                for other in told:
                    self.assertLessEqual(length(mirrors, other), len(first))
            self.assertIs(accepts(*certify_alike(mirrors, word, first)), True)
            self.assertIs(accepts(*certify_order(mirrors)), True)
            self.assertIs(accepts(("alike", mirrors.text, word, first), path(mirrors, word, first)), True)
            self.assertIs(accepts(("alike", mirrors.text, word, first), steps(mirrors, word)), True)
            under = ("under", mirrors.text, first[:-1], first)
            self.assertIs(accepts(under, part_word(mirrors, first[:-1], first)), True)
            desk = Desk(mirrors)
            desk.put("x", first)
            desk.put("y", steps(mirrors, word)[0])
            desk.claim(("alike", "x", "y"))
            again = Desk(desk.mirrors)
            for name in desk.names:
                again.put(name, desk.thing(name))
            for claim in desk.claims:
                again.claim(claim)
            self.same((again.names, again.claims), (desk.names, desk.claims))
            for other in fitting(mirrors, ("ab",) if mirrors.size > 1 else (), ()):
                self.assertIs(is_alike(other, word, word), True)
            board = Board(part(mirrors, mirrors.letters))
            for letter in first:
                board.put(letter)
            board.shorten()
            self.same(board.word, first)


if __name__ == "__main__":
    unittest.main()
