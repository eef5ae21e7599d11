"""Consoles: the interface."""

import itertools
import random
import unittest

from braidwords.console import Console
from braidwords.counting import how_many
from braidwords.desks import Desk
from braidwords.errors import Broken, InUse, InvalidClaim, InvalidCommand, InvalidIndex, InvalidWord, NotMirrors
from braidwords.errors import NothingToUndo, UnknownName
from braidwords.lengths import first_word, length
from braidwords.mirrors import Mirrors
from braidwords.sending import is_alike
from braidwords.under import is_under
from helper import ANYTHING, ENDLESS, FINITE, Case, all_alike, drawn_word, some_mirrors, wrong_mirrors

THREE = Mirrors(3, (("a", "b", 3), ("b", "c", 3)))
TWO = Mirrors.read("ab ab0")

# Each form once.
FORMS = [
    "word x ab", "word x -", "drop x", "lift 0", "undo", "claim alike x y", "claim unlike x y", "claim under x y",
    "claim length x 2", "alike x y", "under x y", "length x", "many x", "first x", "show x", "names", "claims", "order",
]


def console_of(mirrors, *commands):
    console = Console(mirrors)
    for command in commands:
        console.run(command)
    return console


def seen(desk):
    return {name: desk.thing(name) for name in desk.names}, desk.claims, desk.changes


def is_name(word):
    return 1 <= len(word) <= 8 and all("a" <= x <= "z" for x in word)


def is_number(word):
    return word.isascii() and word.isdigit() and str(int(word[:30])) == word and int(word) <= 10 ** 20


def is_command(command):
    """Whether it is of one of the forms, as the document lists them."""
    words = command.split(" ")
    kinds = ["N" if is_number(x) else "W" if x.isascii() and x.isalpha() and x.islower() else x for x in words]
    names = [is_name(x) for x in words]
    first, many = words[0], len(words)
    if first == "word":
        return many == 3 and names[1] and (kinds[2] == "W" or words[2] == "-")
    if first in ("drop", "length", "many", "first", "show"):
        return many == 2 and names[1]
    if first == "lift":
        return many == 2 and kinds[1] == "N"
    if first in ("alike", "under"):
        return many == 3 and names[1] and names[2]
    if first == "claim":
        if many != 4 or not names[2]:
            return False
        return names[3] if words[1] in ("alike", "unlike", "under") else words[1] == "length" and kinds[3] == "N"
    return many == 1 and first in ("undo", "names", "claims", "order")


class InterfaceTest(Case):
    def test_parameters(self):
        self.is_listed(Console, "braidwords.console", ["mirrors"])
        self.is_listed(Console(THREE).run, "braidwords.console", ["command"])
        self.assertIn("run", vars(Console))
        self.assertIsInstance(vars(Console)["desk"], property)

    def test_examples(self):
        console = Console(THREE)
        self.same(
            [console.run("word x abab"), console.run("word y ba"), console.run("alike x y"), console.run("first x"),
             console.run("many y"), console.run("claim alike x y"), console.run("order")],
            ["ok", "ok", "yes", "ba", "1", "ok", "24"])
        self.refuses(Broken, {"index": 0, "shown": "a"}, console.run, "word y ab")

    def test_arguments_by_name(self):
        self.same(Console(mirrors=THREE).run(command="order"), "24")

    def test_a_new_one(self):
        for mirrors in some_mirrors()[::3]:
            console = Console(mirrors)
            self.assertIs(type(console.desk), Desk)
            self.assertIs(console.desk, console.desk)
            self.assertEqual(console.desk.mirrors, mirrors)
            self.assertEqual(seen(console.desk), ({}, (), 0))
            self.same((console.run("names"), console.run("claims")), ("", "0"))
            self.refuses(NothingToUndo, {}, console.run, "undo")

    def test_no_mirrors(self):
        self.refused(Console, ("mirrors", THREE, wrong_mirrors()))
        self.refuses(NotMirrors, {"given": Console}, Console, Console)

    def test_objects(self):
        console = Console(THREE)
        self.equals_itself_alone(console, Console(THREE), console.desk, THREE, Console)
        with self.assertRaises(AttributeError):
            console.desk = console.desk


class CommandsTest(Case):
    def test_changes(self):
        console, desk = Console(THREE), Desk(THREE)
        for command, method, given in [
            ("word x aba", "put", ("x", "aba")), ("word y bab", "put", ("y", "bab")), ("word e -", "put", ("e", "")),
            ("word abcdefgh " + "abc" * 20, "put", ("abcdefgh", "abc" * 20)), ("word x aba", "put", ("x", "aba")),
            ("claim alike x y", "claim", (("alike", "x", "y"),)),
            ("claim unlike e y", "claim", (("unlike", "e", "y"),)),
            ("claim under e x", "claim", (("under", "e", "x"),)),
            ("claim length x 3", "claim", (("length", "x", 3),)),
            ("claim length e 0", "claim", (("length", "e", 0),)),
            ("lift 1", "lift", (1,)), ("lift 0", "lift", (0,)), ("drop y", "drop", ("y",)), ("undo", "undo", ()),
            ("undo", "undo", ()), ("drop abcdefgh", "drop", ("abcdefgh",)), ("word q b", "put", ("q", "b")),
            *[("undo", "undo", ())] * 10,
        ]:
            self.same(console.run(command), "ok")
            self.assertIsNone(getattr(desk, method)(*given))
            self.assertEqual(seen(console.desk), seen(desk))
        self.same((desk.names, desk.changes), (("e", "x", "y"), 3))

    def test_names_that_are_words_of_commands(self):
        names = [
            "word", "drop", "lift", "undo", "claim", "alike", "unlike", "under", "length", "many", "first", "show",
            "names", "claims", "order",
        ]
        console = Console(THREE)
        for name in names:
            self.same(console.run(f"word {name} ab"), "ok")
        self.same(console.run("names"), " ".join(sorted(names)))
        for name, mate in itertools.product(names, names):
            self.same(console.run(f"alike {name} {mate}"), "yes")
        for name in names:
            self.same(console.run(f"claim under {name} word"), "ok")
            self.same(console.run(f"claim length {name} 2"), "ok")
            self.same(console.run(f"show {name}"), "ab")
        self.same(console.run("claims"), "30")

    def test_answers(self):
        draw = random.Random(80)
        for mirrors in [*some_mirrors()[::12], *map(Mirrors.read, ENDLESS)]:
            console, words = Console(mirrors), {}
            for name in ("p", "q", "rest", "s", "none"):
                word = drawn_word(draw, mirrors.letters, draw.choice((1, 3, 8, 60))) if name != "none" else ""
                words[name] = word
                self.same(console.run(f"word {name} {word or '-'}"), "ok")
                self.assertEqual(console.desk.thing(name), word)
            before = seen(console.desk)
            for name, word in words.items():
                self.same(console.run(f"show {name}"), word or "-")
                self.same(console.run(f"first {name}"), first_word(mirrors, word) or "-")
                self.same(console.run(f"length {name}"), str(length(mirrors, word)))
                self.same(console.run(f"many {name}"), str(how_many(mirrors, word)))
                for mate, other in words.items():
                    self.same(console.run(f"alike {name} {mate}"), "yes" if is_alike(mirrors, word, other) else "no")
                    self.same(console.run(f"under {name} {mate}"), "yes" if is_under(mirrors, word, other) else "no")
            self.same(console.run("names"), "none p q rest s")
            self.assertEqual(seen(console.desk), before)

    def test_each_answer(self):
        console = console_of(THREE, "word x abab", "word y ba", "word e -", "word w aa", "word z abacba")
        for command, answer in [
            ("alike x y", "yes"), ("alike x e", "no"), ("alike e w", "yes"), ("alike x x", "yes"), ("under e x", "yes"),
            ("under x e", "no"), ("under y x", "yes"), ("length x", "2"), ("length e", "0"), ("length z", "6"),
            ("many x", "1"), ("many z", "16"), ("many e", "1"), ("first x", "ba"), ("first e", "-"), ("first w", "-"),
            ("show x", "abab"), ("show e", "-"), ("show w", "aa"), ("names", "e w x y z"), ("claims", "0"),
            ("order", "24"),
        ]:
            self.same(console.run(command), answer)

    def test_the_empty_word(self):
        console = Console(THREE)
        for name in ("x", "y"):
            console.run(f"word {name} -")
            self.same(console.desk.thing(name), "")
            self.same((console.run(f"show {name}"), console.run(f"first {name}")), ("-", "-"))
        console.desk.put("z", "")
        self.same(console.run("show z"), "-")

    def test_great_numbers(self):
        mirrors = Mirrors.read("abcdef ab0 cd0 ef0")
        console = console_of(mirrors, "word x " + "abcdef" * 10)
        self.same(console.run("many x"), str(how_many(mirrors, "abcdef" * 10)))
        self.assertGreater(len(console.run("many x")), 25)

    def test_order(self):
        for text, (many, _) in FINITE.items():
            self.same(Console(Mirrors.read(text)).run("order"), str(many))
        for text in ENDLESS:
            self.same(Console(Mirrors.read(text)).run("order"), "no end")
        self.same(Console(Mirrors(6, ())).run("order"), "64")

    def test_the_desk_used_beside_it(self):
        console = Console(THREE)
        desk = console.desk
        desk.put("x", "aba")
        self.same((console.run("show x"), console.run("names")), ("aba", "x"))
        console.run("claim length x 3")
        self.same((desk.claims, console.run("claims")), ((("length", "x", 3),), "1"))
        self.refuses(Broken, {"index": 0, "shown": 1}, desk.put, "x", "a")
        with self.assertRaises(Broken):
            with desk.trial():
                console.run("word y b")
                console.run("word x a")
        self.same((console.run("names"), desk.changes), ("x", 2))
        desk.undo()
        self.same(console.run("claims"), "0")
        console.run("undo")
        self.refuses(NothingToUndo, {}, desk.undo)
        self.assertIs(console.desk, desk)

    def test_two_consoles(self):
        one, other = console_of(THREE, "word x a"), Console(THREE)
        self.same((one.run("names"), other.run("names")), ("x", ""))
        self.assertIsNot(one.desk, other.desk)


class RefusedTest(Case):
    def console(self):
        return console_of(THREE, "word x aba", "word y bab", "word z c", "claim alike x y", "claim length x 3")

    def test_errors_of_the_methods(self):
        console = self.console()
        before = seen(console.desk)
        great = 10 ** 20
        for command, error, attributes in [
            ("word x ab", Broken, {"index": 0, "shown": "a"}), ("word x c", Broken, {"index": 0, "shown": "a"}),
            ("word x abd", InvalidWord, {"given": "abd"}), ("word q z", InvalidWord, {"given": "z"}),
            ("word q " + "a" * 61, InvalidWord, {"given": "a" * 61}),
            ("word q " + "a" * 7990, InvalidWord, {"given": "a" * 7990}),
            ("drop q", UnknownName, {"given": "q"}), ("drop x", InUse, {"index": 0}), ("drop y", InUse, {"index": 0}),
            ("lift 2", InvalidIndex, {"given": 2}), ("lift 61", InvalidIndex, {"given": 61}),
            (f"lift {great}", InvalidIndex, {"given": great}),
            (f"lift {great - 1}", InvalidIndex, {"given": great - 1}),
            ("claim alike x z", Broken, {"index": 2, "shown": "a"}),
            ("claim unlike x y", Broken, {"index": 2, "shown": None}),
            ("claim under z x", Broken, {"index": 2, "shown": None}),
            ("claim length z 0", Broken, {"index": 2, "shown": 1}),
            ("claim alike p q", UnknownName, {"given": "p"}), ("claim unlike x q", UnknownName, {"given": "q"}),
            ("claim under q x", UnknownName, {"given": "q"}), ("claim length q 60", UnknownName, {"given": "q"}),
            ("claim length x 61", InvalidClaim, {"given": ("length", "x", 61)}),
            ("claim length q 61", InvalidClaim, {"given": ("length", "q", 61)}),
            (f"claim length x {great}", InvalidClaim, {"given": ("length", "x", great)}),
            ("alike p q", UnknownName, {"given": "p"}), ("alike x q", UnknownName, {"given": "q"}),
            ("under p q", UnknownName, {"given": "p"}), ("under x q", UnknownName, {"given": "q"}),
            ("under q x", UnknownName, {"given": "q"}), ("length q", UnknownName, {"given": "q"}),
            ("many q", UnknownName, {"given": "q"}), ("first q", UnknownName, {"given": "q"}),
            ("show q", UnknownName, {"given": "q"}),
        ]:
            self.refuses(error, attributes, console.run, command)
            self.refuses(error, attributes, console.run, command=command)
            self.assertEqual(seen(console.desk), before)

    def test_nothing_to_undo(self):
        console = self.console()
        for _ in range(5):
            self.same(console.run("undo"), "ok")
        self.refuses(NothingToUndo, {}, console.run, "undo")

    def test_values_that_are_no_commands(self):
        console = self.console()
        before = seen(console.desk)
        for given in [
            *ANYTHING, ["names"], ("names",), b"names", {"names": 1}, ["word", "x", "ab"], console, console.desk, THREE,
            "x", "help", "exit", "words", "name", "Names", "NAMES", "orders", "no end", "ok", "yes",
        ]:
            self.refuses(InvalidCommand, {"given": given}, console.run, given)
            self.refuses(InvalidCommand, {"given": given}, console.run, command=given)
        self.assertEqual(seen(console.desk), before)

    def test_one_word_more_or_less(self):
        console = self.console()
        for form in FORMS:
            self.assertTrue(is_command(form))
            words = form.split(" ")
            told = [words[:k] + words[k + 1:] for k in range(len(words))]
            for more in ("", "x", "0", "-", "alike", words[0]):
                told += [words[:k] + [more] + words[k:] for k in range(len(words) + 1)]
            # Some claims without their first word are questions, and so is what has "alike" ahead.
            for wrong in [" ".join(x) for x in told if not is_command(" ".join(x))]:
                self.refuses(InvalidCommand, {"given": wrong}, console.run, wrong)
            for wrong in (form + " x", form + " 0", form + " ", "x " + form, f"{form} {form}", form.rpartition(" ")[0]):
                self.refuses(InvalidCommand, {"given": wrong}, console.run, wrong)

    def test_other_signs(self):
        console = self.console()
        for form in FORMS:
            told = [form + "\n", form + " ", " " + form, "\n" + form, form + "\n\n", form + ".", form + ";",
                    form.upper(), form.title(), form + "!", form + "_", form + "-"]
            if " " in form:
                told += [form.replace(" ", sign, 1) for sign in ("  ", "\n", ",", "_", "", " - ")]
            for wrong in told:
                self.refuses(InvalidCommand, {"given": wrong}, console.run, wrong)

    def test_wrong_names(self):
        console = self.console()
        for name in ["", "X", "x1", "1", "abcdefghi", "x" * 9, "x-y", "-", "x_y", "xY", "x\n", "{", "`", "x" * 3000]:
            for command in [
                f"word {name} ab", f"drop {name}", f"claim alike {name} x", f"claim alike x {name}",
                f"claim length {name} 1", f"alike {name} x", f"under x {name}", f"length {name}", f"many {name}",
                f"first {name}", f"show {name}",
            ]:
                self.refuses(InvalidCommand, {"given": command}, console.run, command)

    def test_wrong_words(self):
        console = self.console()
        for word in ["", "A", "aB", "a1", "--", "-a", "a-", "0", "a\n", "_", ".", "`", "{", "''", "a" * 100 + "A"]:
            self.refuses(InvalidCommand, {"given": f"word q {word}"}, console.run, f"word q {word}")

    def test_wrong_numbers(self):
        console = self.console()
        for number in [
            "", "00", "01", "007", "-0", "-1", "+1", "1.0", "1e3", "0x1", "1_0", "a", "x", "-", "1\n", "1a",
            str(10 ** 20 + 1), str(10 ** 21), "9" * 21, "0" + str(10 ** 20), "1" * 5000, "0" * 5000, "9" * 7000,
        ]:
            for command in (f"lift {number}", f"claim length x {number}"):
                self.refuses(InvalidCommand, {"given": command}, console.run, command)

    def test_the_form_comes_first(self):
        console = Console(THREE)
        for command in ("drop X", "claim alike p q r", "claim length q 0061", "lift 00", "undo 1", "show", "word q z2"):
            self.refuses(InvalidCommand, {"given": command}, console.run, command)

    def test_strings_beside_commands(self):
        console, refused = self.console(), 0
        tried = set()
        for form in FORMS:
            for at in range(len(form) + 1):
                tried.add(form[:at] + form[at + 1:])
                for sign in "xw0- \nA9":
                    tried.add(form[:at] + sign + form[at:])
                    tried.add(form[:at] + sign + form[at + 1:])
        for command in sorted(tried):
            before = seen(console.desk)
            if is_command(command):
                try:
                    self.assertIs(type(console.run(command)), str)
                except (UnknownName, InvalidWord, InvalidIndex, InvalidClaim, Broken, InUse):
                    self.assertEqual(seen(console.desk), before)
                if seen(console.desk) != before:
                    console = self.console()
            else:
                refused += 1
                self.refuses(InvalidCommand, {"given": command}, console.run, command)
                self.assertEqual(seen(console.desk), before)
        self.assertGreater(refused, 1000)
        self.assertGreater(len(tried) - refused, 100)


class AgainstDesksTest(Case):
    def test_equal_to_a_desk(self):
        draw = random.Random(81)
        for mirrors in some_mirrors()[::9]:
            console, desk = Console(mirrors), Desk(mirrors)
            for _ in range(60):
                name, mate, number = draw.choice("xyz"), draw.choice("xyz"), draw.randint(0, 4)
                word = drawn_word(draw, mirrors.letters, draw.randint(0, 4))
                kind = draw.choice(("alike", "unlike", "under"))
                put = (f"word {name} {word or '-'}", "put", (name, word))
                command, method, given = draw.choice([
                    put, put, (f"drop {name}", "drop", (name,)), (f"lift {number}", "lift", (number,)),
                    ("undo", "undo", ()),
                    (f"claim {kind} {name} {mate}", "claim", ((kind, name, mate),)),
                    (f"claim length {name} {number}", "claim", (("length", name, number),)),
                ])
                try:
                    getattr(desk, method)(*given)
                except (ValueError, LookupError, ArithmeticError) as error:
                    self.refuses(type(error), vars(error), console.run, command)
                else:
                    self.same(console.run(command), "ok")
                self.assertEqual(seen(console.desk), seen(desk))

    def test_each_new_mirrors_know_their_letters(self):
        for size in range(1, 7):
            console = Console(all_alike(size, 0))
            for k, letter in enumerate("abcdefg"):
                if k < size:
                    self.same(console.run(f"word x {letter}"), "ok")
                else:
                    self.refuses(InvalidWord, {"given": letter}, console.run, f"word x {letter}")


if __name__ == "__main__":
    unittest.main()
