"""Boards: the interface."""

import random
import unittest

from braidwords.boards import Board
from braidwords.errors import InvalidIndex, InvalidLetter, NoMove, NothingToUndo, NotMirrors, TooMany
from braidwords.lengths import first_word, length
from braidwords.mirrors import Mirrors
from helper import ANYTHING, ENDLESS, FINITE, NUMBERS, Case, all_alike, numbers_of, plain_turned, some_mirrors
from helper import wrong_letters, wrong_mirrors

THREE = Mirrors(3, (("a", "b", 3), ("b", "c", 3)))
TWO = Mirrors.read("ab ab0")

# What is no index of a word, whatever its size.
NO_INDEXES = [*[x for x in ANYTHING if type(x) is not int], -1, -2, 61, 10 ** 59, -(10 ** 59), "0", (0,), [0]]


class Stop(Exception):
    """Ends the rows of a trial."""


def board_of(mirrors, word):
    board = Board(mirrors)
    for letter in word:
        board.put(letter)
    return board


def plain_struck(word, index):
    """The word with the striking at this index, None if there is none."""
    return word[:index] + word[index + 2:] if word[index] == word[index + 1:index + 2] else None


def seen(board):
    return board.mirrors.text, board.word, board.length, board.changes


def all_words(board):
    """The words of a board from now back to the first one; all is taken back."""
    told = [board.word]
    while board.changes:
        board.undo()
        told.append(board.word)
    return told


class InterfaceTest(Case):
    def test_parameters(self):
        self.is_listed(Board, "braidwords.boards", ["mirrors"])
        board = Board(THREE)
        for name, parameters in {
            "put": ["letter"], "turn": ["index"], "strike": ["index"], "shorten": [], "undo": [], "trial": [],
            "tried": ["action"],
        }.items():
            self.is_listed(getattr(board, name), "braidwords.boards", parameters)
            self.assertIn(name, vars(Board))
        for name in ("mirrors", "word", "length", "changes"):
            self.assertIsInstance(vars(Board)[name], property)

    def test_examples(self):
        board = Board(THREE)
        self.same(
            [board.put("a"), board.put("b"), board.put("a"), board.turn(0), board.word, board.put("b"), board.strike(2),
             board.word, board.length, board.undo(), board.word, board.changes],
            [None, None, None, None, "bab", None, None, "ba", 2, None, "babb", 5])
        self.refuses(NoMove, {}, board.turn, 3)
        self.assertEqual(seen(board), (THREE.text, "babb", 2, 5))

    def test_arguments_by_name(self):
        board = Board(mirrors=THREE)
        self.assertIsNone(board.put(letter="a"))
        self.assertIsNone(board.put(letter="c"))
        self.assertIsNone(board.turn(index=0))
        self.assertIsNone(board.put(letter="a"))
        self.assertIsNone(board.strike(index=1))
        self.assertEqual(board.word, "c")
        self.assertEqual(board.tried(action=lambda told: told.word), "c")

    def test_properties_are_not_assigned(self):
        board = Board(THREE)
        for name in ("mirrors", "word", "length", "changes"):
            with self.assertRaises(AttributeError):
                setattr(board, name, getattr(board, name))

    def test_a_new_one(self):
        for mirrors in some_mirrors():
            board = Board(mirrors)
            self.same((board.word, board.length, board.changes), ("", 0, 0))
            self.assertEqual(board.mirrors, mirrors)
            self.assertIs(type(board.mirrors), Mirrors)
            self.refuses(NothingToUndo, {}, board.undo)

    def test_no_mirrors(self):
        self.refused(Board, ("mirrors", THREE, wrong_mirrors()))
        self.refuses(NotMirrors, {"given": Board}, Board, Board)

    def test_objects(self):
        board, other = Board(THREE), Board(THREE)
        self.equals_itself_alone(board, other, THREE, Board(TWO), Board)
        board.put("a")
        self.equals_itself_alone(board, other)


class MovesTest(Case):
    def test_put(self):
        for mirrors in some_mirrors()[::5]:
            board, word = Board(mirrors), ""
            for k in range(60):
                letter = mirrors.letters[(k * k + k // 3) % mirrors.size]
                self.assertIsNone(board.put(letter))
                word += letter
                self.same((board.word, board.changes), (word, k + 1))
            self.same(board.length, length(mirrors, word))

    def test_letters_that_are_none(self):
        for mirrors in (THREE, all_alike(6, 3), Mirrors(1, ())):
            for many in (0, 1, 59, 60):
                board = board_of(mirrors, "a" * many)
                before = seen(board)
                for given, error, attributes in wrong_letters(mirrors.letters):
                    self.refuses(error, attributes, board.put, given)
                    self.refuses(error, attributes, board.put, letter=given)
                self.assertEqual(seen(board), before)

    def test_the_sixty_first_letter(self):
        board = board_of(THREE, "abc" * 20)
        for letter in "abc":
            self.refuses(TooMany, {"most": 60}, board.put, letter)
            self.refuses(TooMany, {"most": 60}, board.put, letter=letter)
        self.refuses(InvalidLetter, {"given": "d"}, board.put, "d")
        self.assertEqual((board.word, board.changes), ("abc" * 20, 60))
        board.undo()
        self.assertIsNone(board.put("a"))
        self.assertEqual(board.word, "abc" * 19 + "aba")
        board.turn(57)
        self.refuses(TooMany, {"most": 60}, board.put, "a")
        board.shorten()
        self.assertIsNone(board.put("a"))

    def test_a_turning_for_each_number(self):
        for m in NUMBERS:
            mirrors = all_alike(2, m)
            for x, y in ("ab", "ba"):
                was, turned = (x + y) * 3, (y + x) * 3
                if m:
                    board = board_of(mirrors, was[:m])
                    self.assertIsNone(board.turn(0))
                    self.same((board.word, board.changes), (turned[:m], m + 1))
                    board.turn(0)
                    self.same((board.word, board.changes), (was[:m], m + 2))
                # One letter less is too few, and no number at all knows no turning.
                board = board_of(mirrors, was[:m - 1] if m else was * 5)
                for index in range(len(board.word)):
                    self.refuses(NoMove, {}, board.turn, index)
                    self.refuses(NoMove, {}, board.turn, index=index)

    def test_all_indexes(self):
        draw = random.Random(60)
        for mirrors in some_mirrors()[::2]:
            numbers = numbers_of(mirrors)
            for many in (3, 7, 60):
                word = "".join(draw.choice(mirrors.letters[:3]) for _ in range(many))
                board = board_of(mirrors, word)
                for index in range(many):
                    before = seen(board)
                    turned = plain_turned(numbers, word, index)
                    for move, right in ((board.turn, turned), (board.strike, plain_struck(word, index))):
                        if right is None:
                            self.refuses(NoMove, {}, move, index)
                        else:
                            self.assertIsNone(move(index))
                            self.same((board.word, board.changes), (right, many + 1))
                            self.assertEqual(board.length, before[2])
                            board.undo()
                        self.assertEqual(seen(board), before)

    def test_wrong_indexes(self):
        for word in ("", "a", "aa", "abab", "aba" * 20):
            board = board_of(THREE, word)
            before = seen(board)
            for given in [*NO_INDEXES, len(word), len(word) + 1]:
                for move in (board.turn, board.strike):
                    self.refuses(InvalidIndex, {"given": given}, move, given)
                    self.refuses(InvalidIndex, {"given": given}, move, index=given)
            self.assertEqual(seen(board), before)

    def test_the_last_letter(self):
        # There is a letter with this index, but nothing behind it.
        for word in ("a", "aa", "aba"):
            board = board_of(THREE, word)
            self.refuses(NoMove, {}, board.turn, len(word) - 1)
            self.refuses(NoMove, {}, board.strike, len(word) - 1)
            self.same((board.word, board.changes), (word, len(word)))

    def test_shorten(self):
        draw = random.Random(61)
        for mirrors in [*some_mirrors()[::4], *map(Mirrors.read, ENDLESS), *map(Mirrors.read, FINITE)]:
            word = "".join(draw.choice(mirrors.letters) for _ in range(draw.randint(0, 60)))
            board = board_of(mirrors, word)
            first = first_word(mirrors, word)
            self.assertIsNone(board.shorten())
            self.same((board.word, board.length, board.changes), (first, len(first), len(word) + 1))
            # It leaves all as it is then, and yet it is a change.
            self.assertIsNone(board.shorten())
            self.same((board.word, board.length, board.changes), (first, len(first), len(word) + 2))
            board.undo()
            self.same((board.word, board.changes), (first, len(word) + 1))
            board.undo()
            self.same((board.word, board.changes), (word, len(word)))
        board = Board(THREE)
        board.shorten()
        self.same((board.word, board.changes), ("", 1))
        board.undo()
        self.refuses(NothingToUndo, {}, board.undo)

    def test_undo(self):
        board = Board(THREE)
        words = [""]
        for move, value in [
            ("put", "c"), ("put", "a"), ("put", "b"), ("put", "a"), ("turn", 0), ("turn", 0), ("turn", 1),
            ("put", "a"), ("put", "a"), ("strike", 4),
        ]:
            getattr(board, move)(value)
            words.append(board.word)
        board.shorten()
        words.append(board.word)
        board.shorten()
        words.append(board.word)
        self.assertEqual(
            words, ["", "c", "ca", "cab", "caba", "acba", "caba", "cbab", "cbaba", "cbabaa", "cbab", "acba", "acba"])
        self.assertEqual(all_words(board), words[::-1])
        for _ in range(2):
            self.refuses(NothingToUndo, {}, board.undo)
        self.same((board.word, board.changes), ("", 0))
        # What was taken back is gone.
        board.put("b")
        self.assertEqual(all_words(board), ["b", ""])

    def test_many_changes(self):
        board = Board(TWO)
        for _ in range(3000):
            board.put("a")
            board.undo()
            board.put("a")
            board.put("a")
            board.strike(0)
        self.same((board.word, board.length, board.changes), ("", 0, 9000))
        board.shorten()
        self.assertEqual(all_words(board)[:5], ["", "", "aa", "a", ""])

    def test_against_a_plain_one(self):
        draw = random.Random(62)
        for mirrors in some_mirrors()[::6]:
            numbers, board, told = numbers_of(mirrors), Board(mirrors), [""]
            for _ in range(60):
                word, index = told[-1], draw.randint(-1, 12)
                valid = 0 <= index < len(word)
                move = draw.choice(("put", "put", "put", "turn", "turn", "strike", "strike", "shorten", "undo"))
                after = {
                    "put": word + mirrors.letters[index % mirrors.size],
                    "turn": plain_turned(numbers, word, index) if valid else None,
                    "strike": plain_struck(word, index) if valid else None,
                    "shorten": first_word(mirrors, word), "undo": "",
                }[move]
                given = {"put": [mirrors.letters[index % mirrors.size]], "shorten": [], "undo": []}.get(move, [index])
                if move == "undo" and len(told) == 1:
                    self.refuses(NothingToUndo, {}, board.undo)
                elif after is None and valid:
                    self.refuses(NoMove, {}, getattr(board, move), *given)
                elif after is None:
                    self.refuses(InvalidIndex, {"given": index}, getattr(board, move), *given)
                else:
                    self.assertIsNone(getattr(board, move)(*given))
                    told = told[:-1] if move == "undo" else told + [after]
                self.same((board.word, board.changes), (told[-1], len(told) - 1))
                self.same(board.length, length(mirrors, told[-1]))
            self.assertEqual(all_words(board), told[::-1])

    def test_two_boards_side_by_side(self):
        one, other = Board(THREE), Board(THREE)
        one.put("a")
        other.put("b")
        other.put("b")
        with one.trial():
            one.put("c")
            other.strike(0)
            one.undo()
            one.undo()
        self.same((one.word, one.changes, other.word, other.changes), ("a", 1, "", 3))
        one.undo()
        self.refuses(NothingToUndo, {}, one.undo)
        other.undo()
        self.assertEqual(other.word, "bb")


class TrialTest(Case):
    def a_board(self):
        board = board_of(THREE, "abaab")
        board.turn(0)
        board.shorten()
        board.undo()
        return board

    def check(self, board, before, words):
        """The board is as it was, also what can be taken back."""
        self.assertEqual(seen(board), before)
        self.assertEqual(all_words(board), words)
        self.refuses(NothingToUndo, {}, board.undo)

    def changing(self, board):
        board.put("c")
        board.shorten()
        for _ in range(4):
            board.undo()
        board.put("a")

    def test_rows_that_end_well(self):
        board = self.a_board()
        before, words = seen(board), all_words(self.a_board())
        with board.trial() as told:
            self.assertIs(told, board)
            self.assertEqual(seen(board), before)
            self.changing(board)
            self.assertNotEqual(seen(board), before)
        self.check(board, before, words)

    def test_rows_that_take_back_all(self):
        board = self.a_board()
        before, words = seen(board), all_words(self.a_board())
        with board.trial():
            self.assertEqual(all_words(board), words)
            self.refuses(NothingToUndo, {}, board.undo)
            board.put("b")
        self.check(board, before, words)

    def test_an_exception_is_passed_on(self):
        for error in (Stop("x"), ValueError("x"), KeyboardInterrupt(), GeneratorExit(), StopIteration(), NoMove()):
            board = self.a_board()
            before, words = seen(board), all_words(self.a_board())
            with self.assertRaises(type(error)) as caught:
                with board.trial():
                    self.changing(board)
                    raise error
            self.assertIs(caught.exception, error)
            self.check(board, before, words)

    def test_errors_of_the_board(self):
        board = self.a_board()
        before, words = seen(board), all_words(self.a_board())
        with self.assertRaises(InvalidLetter):
            with board.trial():
                board.put("a")
                board.put("d")
        with self.assertRaises(NothingToUndo):
            with board.trial():
                while True:
                    board.undo()
        self.check(board, before, words)

    def test_a_return_a_break_and_a_continue(self):
        board = self.a_board()
        before, words = seen(board), all_words(self.a_board())

        def leaving():
            with board.trial():
                self.changing(board)
                return board.word

        self.assertNotEqual(leaving(), before[1])
        for k in range(3):
            with board.trial():
                board.put("a")
                if k == 1:
                    continue
                if k == 2:
                    break
                board.put("b")
        self.check(board, before, words)

    def test_one_within_another(self):
        board = self.a_board()
        before, words = seen(board), all_words(self.a_board())
        with board.trial():
            self.changing(board)
            middle = seen(board)
            with self.assertRaises(Stop):
                with board.trial():
                    board.put("a")
                    raise Stop()
            self.assertEqual(seen(board), middle)
            with board.trial():
                board.undo()
            self.assertEqual(seen(board), middle)
            board.undo()
        self.check(board, before, words)

    def test_used_again(self):
        board = self.a_board()
        trial = board.trial()
        # What was done since it was made stays: it begins where the rows begin.
        board.put("c")
        for _ in range(3):
            before = seen(board)
            with trial as told:
                self.assertIs(told, board)
                self.changing(board)
            self.assertEqual(seen(board), before)
            board.put("a")
        with self.assertRaises(Stop):
            with trial:
                board.put("b")
                raise Stop()
        self.assertEqual(board.word, self.a_board().word + "caaa")
        self.assertEqual(all_words(board)[-6:], ["abaab", "abaa", "aba", "ab", "a", ""])

    def test_used_within_itself(self):
        board = self.a_board()
        before, words = seen(board), all_words(self.a_board())
        trial = board.trial()
        with trial:
            board.put("a")
            first = seen(board)
            with trial:
                board.put("b")
                second = seen(board)
                with self.assertRaises(Stop):
                    with trial:
                        self.changing(board)
                        raise Stop()
                self.assertEqual(seen(board), second)
                board.undo()
                board.undo()
            self.assertEqual(seen(board), first)
            with trial:
                self.changing(board)
            self.assertEqual(seen(board), first)
        self.check(board, before, words)

    def test_two_trials_by_turns(self):
        board = self.a_board()
        before, words = seen(board), all_words(self.a_board())
        one, other = board.trial(), board.trial()
        with one:
            board.put("a")
            with other:
                board.put("b")
                with one:
                    board.put("c")
                    with other:
                        board.undo()
                    self.assertEqual(board.word[-3:], "abc")
                self.assertEqual(board.word[-2:], "ab")
            self.assertEqual(board.word[-1:], "a")
        self.check(board, before, words)

    def test_tried(self):
        board = self.a_board()
        before, words = seen(board), all_words(self.a_board())

        def action(told):
            self.assertIs(told, board)
            self.changing(told)
            return told

        self.assertIs(board.tried(action), board)
        for value in [*ANYTHING, board]:
            self.assertIs(board.tried(lambda told, value=value: value), value)
        self.assertIsNone(board.tried(self.changing))
        self.assertEqual(board.tried(lambda told: (told.put("a"), told.word)), (None, before[1] + "a"))
        self.assertEqual(board.tried(lambda told: told.tried(lambda more: more.put("a") or more.word)), before[1] + "a")
        self.check(board, before, words)

    def test_tried_with_an_exception(self):
        board = self.a_board()
        before, words = seen(board), all_words(self.a_board())
        error = Stop("x")

        def action(told):
            self.changing(told)
            raise error

        with self.assertRaises(Stop) as caught:
            board.tried(action)
        self.assertIs(caught.exception, error)
        self.check(board, before, words)


if __name__ == "__main__":
    unittest.main()
