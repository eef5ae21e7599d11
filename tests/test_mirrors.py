"""Mirrors: points [3] to [6] and the interface."""

import itertools
import unittest

from braidwords.errors import InvalidAngles, InvalidLetter, InvalidLot, InvalidNumber, InvalidText, NotMirrors
from braidwords.mirrors import Mirrors, angle, part
from helper import ALL, ANYTHING, Case, Equal, Sour, all_angles, anything_but, pairs_of, some_mirrors, spread
from helper import text_told, triples


class InterfaceTest(Case):
    def test_parameters(self):
        self.is_listed(Mirrors, "braidwords.mirrors", ["size", "angles"])
        self.is_listed(Mirrors.read, "braidwords.mirrors", ["text"])
        self.is_listed(angle, "braidwords.mirrors", ["mirrors", "letter", "mate"])
        self.is_listed(part, "braidwords.mirrors", ["mirrors", "lot"])

    def test_members_stand_in_the_class(self):
        for name in ("__init__", "__eq__", "__str__", "__repr__"):
            self.assertIn(name, vars(Mirrors))
        self.assertIsInstance(vars(Mirrors)["read"], classmethod)
        for name in ("size", "angles", "letters", "text"):
            self.assertIsInstance(vars(Mirrors)[name], property)

    def test_examples(self):
        three, ring, two = (
            Mirrors(3, (("a", "b", 3), ("b", "c", 3))), Mirrors.read("abc ab3 ac3 bc3"), Mirrors.read("ab ab0"))
        self.assertEqual(
            [three.text, three.letters, ring.angles, angle(three, "c", "a"), angle(two, "b", "a"),
             angle(two, "a", "a"), part(three, "ac").text, part(three, "bc").text, repr(two)],
            ["abc ab3 bc3", "abc", (("a", "b", 3), ("a", "c", 3), ("b", "c", 3)), 2, 0, 1, "ab", "ab ab3",
             "Mirrors of 2 letters"])
        self.refuses(InvalidAngles, {"index": 0}, Mirrors, 2, (("a", "b", 5),))
        self.assertEqual(Mirrors.read("abc ab3 bc4").text, "abc ab3 bc4")

    def test_arguments_by_name(self):
        mirrors = Mirrors(angles=(("a", "b", 4),), size=2)
        self.assertEqual(mirrors, Mirrors.read(text="ab ab4"))
        self.assertEqual(angle(mate="b", letter="a", mirrors=mirrors), 4)
        self.assertEqual(part(lot="b", mirrors=mirrors), Mirrors(1, ()))
        self.refuses(InvalidNumber, {"given": 0}, Mirrors, size=0, angles=())
        self.refuses(InvalidLetter, {"given": "c"}, angle, mirrors=mirrors, letter="a", mate="c")


class MakingTest(Case):
    def test_each_size(self):
        for size in range(1, 7):
            for angles in ((), *spread(size)):
                mirrors = Mirrors(size, angles)
                self.assertIs(type(mirrors.size), int)
                self.assertEqual(mirrors.size, size)
                self.assertEqual(mirrors.letters, ALL[:size])
                self.assertIs(type(mirrors.angles), tuple)
                self.assertEqual(mirrors.angles, angles)
                self.assertEqual(mirrors.text, text_told(size, angles))

    def test_all_of_three_letters(self):
        for angles in all_angles(3):
            mirrors = Mirrors(3, angles)
            self.assertEqual((mirrors.angles, mirrors.text), (angles, text_told(3, angles)))

    def test_all_angles_told(self):
        angles = tuple((x, y, 6) for x, y in pairs_of(6))
        self.assertEqual(len(Mirrors(6, angles).angles), 15)

    def test_wrong_sizes(self):
        for size in [*anything_but(1), 7, 8, -6, "1", "3", (3,), [3]]:
            self.refuses(InvalidNumber, {"given": size}, Mirrors, size, ())
            # The size is asked ahead of the angles.
            self.refuses(InvalidNumber, {"given": size}, Mirrors, size, None)

    def test_angles_that_are_no_tuple(self):
        for angles in [*ANYTHING, [("a", "b", 3)], "ab3", {("a", "b", 3): 1}, iter(())]:
            if not isinstance(angles, tuple):
                self.refuses(InvalidAngles, {"index": None}, Mirrors, 3, angles)

    def test_a_wrong_triple(self):
        good = (("a", "b", 3), ("a", "c", 4), ("b", "c", 6))
        wrong = [
            *anything_but(("a", "b", 3)), "bc3", "bc", ["b", "c", 3], ("b", "c"), ("b", "c", 3, 3), ("bc", 3),
            ("b", ("c", 3)), ("b", "d", 3), ("d", "e", 3), ("B", "c", 3), ("b", "", 3), ("", "c", 3), ("", "", 3),
            ("a", "bc", 3), ("ab", "c", 3), ("b", b"c", 3), (1, 2, 3), (None, "c", 3), ("b", None, 3), (["b"], "c", 3),
            ("c", "b", 3), ("b", "b", 3), ("c", "c", 3), ("c", "a", 0),
            *[("b", "c", m) for m in anything_but(0)], ("b", "c", 2), ("b", "c", 5), ("b", "c", -3), ("b", "c", 30),
            ("b", "c", "3"), ("b", "c", "0"), ("b", "c", (3,)),
        ]
        for value in wrong:
            for index in (0, 1, 2):
                # What stands behind it, right or wrong, does not matter.
                for behind in ((), (("b", "c", 3),), (None, 5)):
                    self.refuses(InvalidAngles, {"index": index}, Mirrors, 3, good[:index] + (value, *behind))

    def test_letters_beyond_the_size(self):
        for size in range(1, 6):
            beyond = ALL[size]
            angles = triples(size, [3] * 15)
            self.refuses(InvalidAngles, {"index": len(angles)}, Mirrors, size, (*angles, ("a", beyond, 3)))
        self.refuses(InvalidAngles, {"index": 0}, Mirrors, 1, (("a", "a", 3),))
        self.refuses(InvalidAngles, {"index": 15}, Mirrors, 6, triples(6, [3] * 15) + (("f", "g", 3),))

    def test_a_pair_twice_or_not_ascending(self):
        ab, ac, bc, cd = ("a", "b", 3), ("a", "c", 3), ("b", "c", 3), ("c", "d", 3)
        for angles, index in [
            ((ab, ab), 1), ((ab, ("a", "b", 4)), 1), ((ab, ("a", "b", 0)), 1), ((("a", "b", 4), ab), 1),
            ((bc, ab), 1), ((bc, ac), 1), ((ac, ab), 1), ((ab, bc, ac), 2), ((ab, bc, bc), 2), ((ab, cd, bc, cd), 2),
            ((ab, ac, bc, cd, ab), 4), ((ab, bc, ab, None), 2), ((ac, ab, None), 1),
        ]:
            self.refuses(InvalidAngles, {"index": index}, Mirrors, 4, angles)

    def test_orders_of_three_pairs(self):
        pairs = (("a", "b", 6), ("a", "c", 4), ("b", "c", 3))
        for angles in itertools.permutations(pairs):
            wrong = [k for k in (1, 2) if angles[k] < angles[k - 1]]
            if wrong:
                self.refuses(InvalidAngles, {"index": wrong[0]}, Mirrors, 3, angles)
        self.assertEqual(Mirrors(3, pairs).angles, pairs)

    def test_more_than_there_are_pairs(self):
        full = triples(3, (3, 3, 3))
        self.refuses(InvalidAngles, {"index": 3}, Mirrors, 3, full + full)

    def test_nothing_is_changed(self):
        angles = [["a", "b", 3]]
        self.refuses(InvalidAngles, {"index": None}, Mirrors, 2, angles)
        self.assertEqual(angles, [["a", "b", 3]])
        inner = ["a", "b", 3]
        self.refuses(InvalidAngles, {"index": 0}, Mirrors, 2, (inner,))
        self.assertEqual(inner, ["a", "b", 3])

    def test_mirrors_never_change(self):
        mirrors = Mirrors.read("ab ab3")
        for name in ("size", "angles", "letters", "text"):
            with self.assertRaises(AttributeError):
                setattr(mirrors, name, getattr(mirrors, name))
        angle(mirrors, "a", "b")
        part(mirrors, "b")
        self.assertEqual((mirrors.text, mirrors.angles), ("ab ab3", (("a", "b", 3),)))


class ReadingTest(Case):
    def test_texts(self):
        for mirrors in some_mirrors():
            told = Mirrors.read(mirrors.text)
            self.assertIs(type(told), Mirrors)
            self.assertEqual((told.size, told.angles, told.text), (mirrors.size, mirrors.angles, mirrors.text))

    def test_letters_alone(self):
        for size in range(1, 7):
            self.assertEqual(Mirrors.read(ALL[:size]).angles, ())

    def test_strings_that_are_no_text(self):
        for text in [
            "", " ", "  ", "b", "bc", "ba", "ac", "acb", "aa", "aab", "A", "AB", "abcdefg", "abcdefg ab3", "abd",
            " ab", "ab ", " ab ab3", "ab ab3 ", "ab  ab3", "abc ab3  bc3", "abc ab3bc3", "abab3", "ab\nab3", "ab ab3\n",
            "ab ab2", "abc ab3 bc2", "ab ab1", "ab ab5", "ab ab7", "ab ab8", "ab ab9", "ab ab33", "ab ab03", "ab ab-3",
            "ab ab+3", "ab ab", "ab ab 3", "ab a b3", "ab a3", "ab b3", "ab 3", "ab 3ab", "ab abx", "ab abb3", "ab AB3",
            "ab ba3", "ab aa3", "ab bb3", "ab ac3", "ab bc3", "abc cd3", "ab ab3 ab3", "ab ab3 ab4", "abc bc3 ab3",
            "abc ac3 ab3", "abc ab3 ac3 ac3", "abc ab3 bc3 ac3", "ab,ab3", "ab, ab3", "ab ab3,", "Mirrors of 2 letters",
            "ab ab3.0", "ab ab03", "ab ab0 ", "ab  ", "0", "ab ab3 x", "ab ab " + "3" * 8000, "a" * 8000, " " * 8000,
        ]:
            self.refuses(InvalidText, {"given": text}, Mirrors.read, text)

    def test_values_that_are_no_text(self):
        for text in [*anything_but("ab", "abc"), b"ab ab3", ["ab", "ab3"], ("ab", "ab3"), ("ab ab3",),
                     Mirrors.read("ab ab3"), Mirrors]:
            self.refuses(InvalidText, {"given": text}, Mirrors.read, text)

    def test_strings_beside_texts(self):
        valid = {text_told(size, angles) for size in (1, 2, 3, 4) for angles in all_angles(size)}
        tried = set()
        for text in [text_told(size, angles) for size in (1, 2, 3) for angles in all_angles(size)]:
            for at in range(len(text) + 1):
                tried.add(text[:at] + text[at + 1:])
                for sign in "abcd 0123456":
                    tried.add(text[:at] + sign + text[at:])
                    tried.add(text[:at] + sign + text[at + 1:])
        self.assertGreater(len(tried - valid), 1000)
        for text in sorted(tried):
            if text in valid:
                self.assertEqual(Mirrors.read(text).text, text)
            else:
                self.refuses(InvalidText, {"given": text}, Mirrors.read, text)


class ObjectsTest(Case):
    def test_text_and_shown(self):
        for mirrors in some_mirrors():
            self.assertEqual(str(mirrors), mirrors.text)
            self.assertEqual(repr(mirrors), f"Mirrors of {mirrors.size} letters")
        self.assertEqual(repr(Mirrors(1, ())), "Mirrors of 1 letters")

    def test_equal(self):
        many = some_mirrors()
        for mirrors in many:
            self.assertTrue(mirrors == mirrors)
            self.assertIs(mirrors == Mirrors.read(mirrors.text), True)
            self.assertIs(mirrors != Mirrors.read(mirrors.text), False)
        for one, other in itertools.combinations(many[:160], 2):
            self.assertIs(one == other, one.text == other.text)
            self.assertIs(one != other, one.text != other.text)

    def test_unequal(self):
        self.assertNotEqual(Mirrors(2, ()), Mirrors(3, ()))
        self.assertNotEqual(Mirrors.read("ab ab3"), Mirrors.read("ab ab4"))
        self.assertNotEqual(Mirrors.read("abc ab3"), Mirrors.read("abc ac3"))

    def test_never_equal_to_another_class(self):
        mirrors = Mirrors.read("ab ab3")
        for other in [*ANYTHING, "ab ab3", b"ab ab3", 2, (2, (("a", "b", 3),)), Mirrors, mirrors.angles]:
            self.assertIs(mirrors == other, False)
            self.assertIs(mirrors != other, True)
            if type(other) not in (Equal, Sour):
                self.assertIs(other == mirrors, False)
                self.assertIs(other != mirrors, True)

    def test_true(self):
        for mirrors in some_mirrors():
            self.assertIs(bool(mirrors), True)


class AngleTest(Case):
    def test_all_pairs(self):
        for mirrors in some_mirrors():
            told = {(x, y): m for x, y, m in mirrors.angles}
            for x, y in itertools.product(mirrors.letters, repeat=2):
                number = 1 if x == y else told.get((min(x, y), max(x, y)), 2)
                self.assertIs(type(angle(mirrors, x, y)), int)
                self.assertEqual(angle(mirrors, x, y), number)
                self.assertEqual(angle(mirrors, x, y), angle(mirrors, y, x))

    def test_no_mirrors(self):
        for given in [*ANYTHING, "ab ab3", Mirrors]:
            self.refuses(NotMirrors, {"given": given}, angle, given, "a", "b")
            self.refuses(NotMirrors, {"given": given}, angle, given, None, None)

    def test_no_letter(self):
        mirrors = Mirrors.read("abc ab3")
        for given in [*ANYTHING, "d", "abcd", "B", "a ", "bc", ("a",), ["a"], "\n", "`", "{"]:
            self.refuses(InvalidLetter, {"given": given}, angle, mirrors, given, "a")
            self.refuses(InvalidLetter, {"given": given}, angle, mirrors, "a", given)
            # The letter is asked ahead of its mate.
            self.refuses(InvalidLetter, {"given": given}, angle, mirrors, given, "z")

    def test_letters_of_the_mirrors_alone(self):
        for size in range(1, 7):
            for x in ALL[size:]:
                self.refuses(InvalidLetter, {"given": x}, angle, Mirrors(size, ()), x, x)
                self.refuses(InvalidLetter, {"given": x}, angle, Mirrors(size, ()), "a", x)


class PartTest(Case):
    def lots(self, mirrors):
        for many in range(1, mirrors.size + 1):
            for lot in itertools.combinations(mirrors.letters, many):
                yield "".join(lot)

    def test_all_lots(self):
        for mirrors in some_mirrors():
            for lot in self.lots(mirrors):
                told = part(mirrors, lot)
                self.assertIs(type(told), Mirrors)
                self.assertEqual(told.size, len(lot))
                for j, k in itertools.product(range(len(lot)), repeat=2):
                    self.assertEqual(angle(told, ALL[j], ALL[k]), angle(mirrors, lot[j], lot[k]))
                self.assertEqual(Mirrors.read(told.text), told)
                self.assertEqual(part(mirrors, lot), told)

    def test_all_letters(self):
        for mirrors in some_mirrors():
            self.assertEqual(part(mirrors, mirrors.letters), mirrors)

    def test_no_mirrors(self):
        for given in [*ANYTHING, "ab ab3", Mirrors]:
            self.refuses(NotMirrors, {"given": given}, part, given, "a")
            self.refuses(NotMirrors, {"given": given}, part, given, "")

    def test_no_lot(self):
        mirrors = Mirrors.read("abc ab3")
        for given in [*anything_but("ab", "abc"), "d", "ad", "abcd", "bac", "cb", "ca", "aab", "abb", "abca", "A",
                      "a b", "a ", "ab\n", ("a", "b"), ["a"], b"ab"]:
            self.refuses(InvalidLot, {"given": given}, part, mirrors, given)

    def test_the_empty_lot(self):
        for mirrors in some_mirrors():
            self.refuses(InvalidLot, {"given": ""}, part, mirrors, "")


if __name__ == "__main__":
    unittest.main()
