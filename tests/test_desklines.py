"""Promise [43]: errors of a desk's lines, and desks on which lines are run again."""

import itertools
import random
import unittest

from tests.desksamples import DeskByWords, libraries, some_line
from tests.makingsamples import Checks
from tests.samples import NO_INTEGERS
from wishunseen.desk import Desk, replayed_desk
from wishunseen.errors import InvalidLibrary, InvalidLine, InvalidNumber, NothingToUndo, Undefined, UnknownWord
from wishunseen.libraries import Library

# The forms, with a word that fits in each place.
FORMS = (
    "book 0 1", "plan least", "plan sums", "plan whole 1", "make turned", "make reordered 1,0", "make rehoused 0,1",
    "make mixed 1 999", "ask 0 0", "spent 1", "seen 1", "wastes 0,1", "guess 0", "undo", "redo",
)
# Where the words that are lists stand, and those that are numbers.
LISTS = (("book 0 {}", 7), ("make reordered {}", 15), ("make rehoused {}", 14), ("wastes {}", 7), ("guess {}", 6))
NUMBERS = (
    ("book {} 1", 5), ("plan whole {}", 11), ("make mixed {} 1", 11), ("make mixed 1 {}", 13), ("ask {} 0", 4),
    ("ask 0 {}", 6), ("spent {}", 6), ("seen {}", 5),
)
NO_NUMBERS = (
    "00", "01", "-1", "+1", "1.", "x", "1x", "x1", "1\t", "\t1", "1\n", "\n", "1234567890", "0000000000", "1_0", "0x1",
    "None", "\u0661", "\u00b2", "1,", ",1", "1;0", "(1)", "-", "1\r", "\u00a01", "one",
)


def small():
    return Desk(Library(2, ((1,), (0,))), 2)


def answers(desk, lines):
    return [desk.run(line) for line in lines]


class LineErrors(Checks):
    def check_line(self, desk, line, at):
        before = (desk.lines, desk.plan, desk.library)
        with self.assertRaises(InvalidLine, msg=repr(line)) as caught:
            desk.run(line)
        self.assertEqual((caught.exception.line, caught.exception.at), (line, at), line)
        self.assertEqual((desk.lines, desk.plan, desk.library), before)

    def check_word(self, desk, line, word):
        before = (desk.lines, desk.plan, desk.library)
        with self.assertRaises(UnknownWord, msg=repr(line)) as caught:
            desk.run(line)
        self.assertEqual(caught.exception.word, word)
        self.assertEqual((desk.lines, desk.plan, desk.library), before)

    def check_raised(self, desk, line, kind, value):
        before = (desk.lines, desk.plan, desk.library)
        with self.assertRaises(kind, msg=line) as caught:
            desk.run(line)
        self.assertEqual(next(iter(vars(caught.exception).values())), value)
        self.assertIs(type(next(iter(vars(caught.exception).values()))), type(value))
        self.assertEqual((desk.lines, desk.plan, desk.library), before)


class Words(LineErrors):
    def test_unknown_words(self):
        for word in (
            "", "Book", "books", "boo", "least", "sums", "whole", "turned", "PLAN", "asks", "spend", "undo\n", "\tundo",
            "redo\t", "book\t0", "seen,1", "-", "0", "1", "plan\n", "make\u00a0turned", "none", "number",
        ):
            for rest in ("", " ", "  ", " 0", " least", " 0 1", " 0 0 0"):
                self.check_word(small(), word + rest, word)

    def test_blanks_ahead(self):
        for line in FORMS:
            self.check_word(small(), " " + line, "")
            self.check_word(small(), "  " + line, "")
            self.check_word(small(), "\t" + line, ("\t" + line).split(" ")[0])


class Forms(LineErrors):
    def test_all_forms_fit(self):
        desk = small()
        self.assertRaises(NothingToUndo, desk.run, "undo")
        self.assertRaises(NothingToUndo, desk.run, "redo")
        for line in FORMS[:-2]:
            self.assertIs(type(desk.run(line)), str)
        self.assertEqual((desk.run("undo"), desk.run("redo")), ("", ""))

    def test_words_that_lack(self):
        for line in FORMS:
            words = line.split(" ")
            for count in range(1, len(words)):
                short = " ".join(words[:count])
                self.check_line(small(), short, len(short))
                # A blank behind the last word begins an empty one.
                self.check_line(small(), short + " ", len(short) + 1)

    def test_words_that_are_too_many(self):
        for line in FORMS:
            for more in (" 0", " 0,1", " x", " ", "  ", " 0 0", " undo", "  0"):
                self.check_line(small(), line + more, len(line) + 1)

    def test_blanks_between_words(self):
        for line in FORMS:
            for at, sign in enumerate(line):
                if sign == " ":
                    self.check_line(small(), line[:at] + " " + line[at:], at + 1)
                    self.check_line(small(), line[:at] + "  " + line[at:], at + 1)

    def test_second_words(self):
        for word in ("plan", "make"):
            for second in (
                "Least", "leas", "leastt", "x", "0", "", "least\n", "\tsums", "whole,1", "mixed0", "undo", "whol",
                "turn",
                "turned" if word == "plan" else "least", "mixed" if word == "plan" else "whole", "plan", "make",
            ):
                for rest in ("", " 1", " 0,1", " 1 1", " ", " x y"):
                    self.check_line(small(), f"{word} {second}{rest}", 5)

    def test_words_that_are_no_numbers(self):
        for form, at in NUMBERS:
            for word in NO_NUMBERS + ("", "0,1", "1,1"):
                self.check_line(small(), form.format(word), at)
                self.check_line(small(), form.format(word) + " 0 0", at)

    def test_words_that_are_no_lists(self):
        for form, at in LISTS:
            for word in NO_NUMBERS + ("", ","):
                self.check_line(small(), form.format(word), at)
                for given in (f"{word},0", f"0,{word}", f"0,{word},1", f"0,1,{word}", ",,", f"0,,{word}"):
                    self.check_line(small(), form.format(given), at)
            self.check_line(small(), form.format("0, 1"), at)
            self.check_line(small(), form.format("0 ,1"), at + 2)

    def test_the_first_wrong_word(self):
        for line, at in (
            ("book x y", 5), ("book 0 y z", 7), ("book  0 1", 5), ("ask 0  0", 6), ("ask 00 00", 4), ("ask 0 00", 6),
            ("make mixed 01 x", 11), ("make mixed 1 x y", 13), ("plan x 1 2", 5), ("make reordered x 1", 15),
            ("make mixed 1", 12), ("make mixed x", 11), ("book 0", 6), ("book x", 5), ("guess 0 1", 8),
            ("undo x  y", 5),
        ):
            self.check_line(small(), line, at)

    def test_nine_figures_and_ten(self):
        desk = small()
        for line, value in (
            ("spent 999999999", 999999999), ("guess 0,123456789", (0, 123456789)),
            ("make mixed 100000000 1", 100000000),
            ("plan whole 100000000", 100000000),
        ):
            self.check_raised(desk, line, InvalidNumber, value)
        self.check_line(desk, "spent 1000000000", 6)
        self.check_line(desk, "guess 0,1234567890", 6)
        self.check_line(desk, "book 0 0,0000000000", 7)


class Raised(LineErrors):
    def test_values_that_the_functions_do_not_take(self):
        for desk in (small(), replayed_desk(Library(2, ((1,), (0,))), 2, ["plan least", "make turned", "undo"])):
            for line, kind, value in (
                ("book 2 1", InvalidNumber, 2), ("book 2 9", InvalidNumber, 2), ("book 0 2", InvalidLibrary, (2,)),
                ("book 1 0,1", InvalidLibrary, (0, 1)), ("plan whole 2", InvalidNumber, 2),
                ("make reordered 0", InvalidNumber, (0,)), ("make reordered 0,0", InvalidNumber, (0, 0)),
                ("make rehoused 1,2", InvalidNumber, (1, 2)), ("make rehoused 0,1,2", InvalidNumber, (0, 1, 2)),
                ("make mixed 0 1", InvalidNumber, 0), ("make mixed 1 0", InvalidNumber, 0),
                ("make mixed 1000 0", InvalidNumber, 1000), ("make mixed 999 1000", InvalidNumber, 1000),
                ("ask 2 9", InvalidNumber, 2), ("ask 1 9", InvalidNumber, 9), ("spent 2", InvalidNumber, 2),
                ("seen 0", InvalidNumber, 0), ("seen 3", InvalidNumber, 3), ("wastes 0", InvalidNumber, (0,)),
                ("wastes 1,1", InvalidNumber, (1, 1)), ("guess 2", InvalidNumber, (2,)),
                ("guess 1,0", InvalidNumber, (1, 0)), ("guess 0,0", InvalidNumber, (0, 0)),
            ):
                self.check_raised(desk, line, kind, value)

    def test_undefined_plans(self):
        told = set()
        for p, books, length, houses in itertools.product((2, 3, 31), (1, 2, 4, 5, 8), (1, 2, 3, 6, 8), range(1, 7)):
            desk = Desk(Library(p, ((0,) * length,) * books), houses)
            least = houses >= 2 and books <= 4 and length <= 6 and length % (houses - 1 or 1) == 0
            sums = houses >= 2 and length == 1 and p ** (books * (houses - 1)) <= 256
            for word, good in (("least", least), ("sums", sums)):
                if not good:
                    self.check_raised(desk, f"plan {word}", Undefined, "plan")
                elif word == "least":
                    self.assertEqual(desk.run("plan least"), str(houses ** (books - 1)))
                else:
                    self.assertEqual(desk.run("plan sums"), str(p ** (books * (houses - 1))))
                told.add((word, good))
        self.assertEqual(len(told), 4)

    def test_just_600_draws_and_more(self):
        # 25 draws of two houses become twice as many by turning, and three times as many by mixing.
        sums = ("plan sums", "make turned", "make turned")
        for lines in ((*sums, "make turned", "make mixed 2 3"), (*sums, "make mixed 1 1", "make turned")):
            desk = replayed_desk(Library(5, ((1,), (4,))), 2, lines)
            self.assertEqual(len(desk.plan.draws), 600)
            # The draws are judged ahead of the values.
            for line in ("make turned", "make mixed 1 1", "make mixed 0 0", "make mixed 1 1000"):
                self.check_raised(desk, line, Undefined, "draws")
            self.check_line(desk, "make turned 1", 12)
            lines = ("make reordered 1,0", "make rehoused 1,0", "ask 0 599")
            self.assertEqual(answers(desk, lines), ["600", "600", "1"])
        for houses, lines, most in (
            (6, ("make turned",) * 3, 216), (5, ("make turned", "make turned", "make mixed 1 2"), 150),
            (3, ("make mixed 1 1", "make turned") * 2 + ("make mixed 9 1",), 576), (2, ("make turned",) * 9, 512),
            (1, ("make mixed 1 2",) * 9 + ("make turned",) * 3, 512),
        ):
            desk = replayed_desk(Library(3, ((1,), (2,))), houses, lines)
            self.assertEqual(len(desk.plan.draws), most)
            if houses > 1:
                self.check_raised(desk, "make turned", Undefined, "draws")
            self.check_raised(desk, "make mixed 999 999", Undefined, "draws")
            self.assertEqual(desk.run("make reordered 1,0"), str(most))

    def test_errors_in_their_order(self):
        desk = Desk(Library(2, ((1, 1), (0, 0))), 1)
        self.check_word(desk, "plans x  ", "plans")
        self.check_line(desk, "plan least ", 11)
        self.check_line(desk, "plan sums 0", 10)
        self.check_raised(desk, "plan least", Undefined, "plan")
        # Undoing is judged behind the form, and nothing is there to be undone.
        self.check_line(desk, "undo 1", 5)
        self.check_raised(desk, "undo", NothingToUndo, "undo")
        self.check_raised(desk, "redo", NothingToUndo, "redo")


class Replayed(Checks):
    def test_any_lines_are_run(self):
        library = Library(2, ((1,), (0,)))
        desk = replayed_desk(library, 2, ["plan least", "ask 0 1", "book 1 1", "undo", "spent 0", "redo", "undo"])
        self.assertEqual((desk.lines, desk.library), (("plan least",), library))
        self.assertEqual(desk.run("redo"), "")
        self.assertEqual(desk.library, Library(2, ((1,), (1,))))
        by_name = replayed_desk(lines=("plan least",), house_count=2, library=library)
        self.assertIs(type(by_name), Desk)
        self.assertEqual(by_name.lines, ("plan least",))
        self.assertEqual(replayed_desk(library, 3, ()).plan, Desk(library, 3).plan)

    def test_errors(self):
        library = Library(2, ((1,), (0,)))
        self.check_value(InvalidLibrary, None, replayed_desk, None, 0, ["x"])
        for value in NO_INTEGERS + (0, 7):
            self.check_number(value, replayed_desk, library, value, ["x"])
        for lines, kind in (
            (["plan least", "plans"], UnknownWord), (["plan"], InvalidLine), (["undo"], NothingToUndo),
            (["ask 2 0"], InvalidNumber), (["make turned"] * 12, Undefined),
        ):
            self.assertRaises(kind, replayed_desk, library, 2, lines)

    def test_both_answer_alike(self):
        """A desk and one on which its lines are run again, line by line, but redo."""
        rng = random.Random(43)
        for library, house_count, plans in libraries():
            desk, told = Desk(library, house_count), DeskByWords(library, house_count)
            for _ in range(25):
                line = some_line(rng, told, plans)
                told.run(line)
                desk.run(line)
            self.assertEqual(desk.lines, tuple(told.done))
            other = replayed_desk(library, house_count, desk.lines)
            self.assertEqual((other.lines, other.plan, other.library), (desk.lines, desk.plan, desk.library))
            for _ in range(15):
                line = some_line(rng, told, plans)
                if line != "redo":
                    self.assertEqual(other.run(line), desk.run(line))
                    told.run(line)
                    self.assertEqual((other.lines, other.plan, other.library), (desk.lines, desk.plan, desk.library))

    def test_lines_are_those_that_are_done(self):
        desk = small()
        answers(desk, ("plan least", "ask 0 0", "make turned", "undo", "book 0 0", "spent 0"))
        answers(desk, ("book 1 1", "undo", "seen 1"))
        self.assertEqual(desk.lines, ("plan least", "book 0 0"))
        self.assertIs(type(desk.lines), tuple)
        again = replayed_desk(Library(2, ((1,), (0,))), 2, list(desk.lines))
        for line in ("ask 0 1", "ask 1 0", "book 1 1", "undo", "undo", "undo"):
            self.assertEqual(again.run(line), desk.run(line))
        for each in (again, desk):
            self.assertRaises(NothingToUndo, each.run, "undo")


if __name__ == "__main__":
    unittest.main()
