"""Promise [42]: a desk."""

import random
import unittest

from tests.desksamples import DeskByWords, libraries, some_line
from tests.makingsamples import Checks
from tests.samples import NO_INTEGERS, nested
from wishunseen.desk import Desk
from wishunseen.editions import Shelf
from wishunseen.errors import InvalidLibrary, NothingToUndo
from wishunseen.leastplan import least_plan
from wishunseen.libraries import Library
from wishunseen.making import mixed_plans, turned_plan
from wishunseen.plans import Plan
from wishunseen.sums import sums_plan, whole_plan

SMALL = Library(2, ((1,), (0,)))


def answers(desk, lines):
    return [desk.run(line) for line in lines]


class Making(Checks):
    def test_at_first(self):
        for library, house_count, _ in libraries():
            for desk in (Desk(library, house_count), Desk(house_count=house_count, library=library)):
                self.assertEqual(desk.lines, ())
                self.assertEqual(desk.library, library)
                self.assertEqual(
                    desk.plan, whole_plan(library.p, house_count, library.book_count, library.book_length, 0)
                )

    def test_what_is_no_library(self):
        for value in NO_INTEGERS + (0, 1, -1, nested(10), ((1,), (0,)), whole_plan(2, 1, 1, 1, 0)):
            if not isinstance(value, Library):
                self.check_value(InvalidLibrary, value, Desk, value, 2)
                self.check_value(InvalidLibrary, value, Desk, value, value)
                self.check_value(InvalidLibrary, value, Desk, value, 0)

    def test_what_is_no_number_of_houses(self):
        for value in NO_INTEGERS + (0, 7, -1, 10 ** 40, -10 ** 40, nested(10)):
            self.check_number(value, Desk, SMALL, value)
        for house_count in range(1, 7):
            self.assertEqual(Desk(SMALL, house_count).plan.house_count, house_count)

    def test_a_shelf_is_no_library(self):
        shelf = Shelf(SMALL)
        self.check_value(InvalidLibrary, shelf, Desk, shelf, 2)


class Lines(Checks):
    def test_the_example_of_the_document(self):
        desk = Desk(Library(2, ((1,), (0,))), 2)
        told = (
            ("plan least", "2"), ("seen 1", "hidden"), ("spent 0", "3/2"), ("wastes 0,1", "0 0 0"), ("ask 0 1", "1"),
            ("book 1 1", "1"), ("ask 1 0", "1"), ("undo", ""), ("ask 1 0", "0"),
        )
        self.assertEqual([desk.run(line) for line, _ in told], [answer for _, answer in told])

    def test_each_line(self):
        desk = Desk(Library(3, ((1, 2), (0, 1))), 3)
        for line, told in (
            ("ask 0 0", "1,2"), ("ask 1 0", "0,1"), ("spent 1", "4"), ("seen 3", "hidden"), ("guess 0,1,2", "1/2"),
            ("wastes 1,0", "0 4/3 0"), ("plan least", "3"), ("seen 2", "0,1 0,0 1 0 1"), ("spent 0", "8/3"),
            ("guess 1", "1/2"), ("guess 0,1,2", "1"), ("wastes 0,1", "0 0 0"), ("book 0 2,0", "1"), ("ask 0 2", "2,0"),
            ("book 1 2,2", "2"), ("ask 1 1", "2,2"), ("make turned", "9"), ("spent 1", "8/3"), ("plan whole 2", "1"),
            ("make turned", "3"), ("make mixed 3 999", "12"), ("make reordered 1,0", "12"), ("ask 0 11", "2,0"),
            ("make rehoused 2,0,1", "12"), ("ask 1 4", "2,2"), ("undo", ""), ("redo", ""),
        ):
            self.assertEqual(desk.run(line=line), told, line)

    def test_numbers_of_draws_and_plans(self):
        for library, house_count, plans in libraries():
            desk = Desk(library, house_count)
            for word in plans:
                draws = desk.run(f"plan {word}")
                p, books, length = library.p, library.book_count, library.book_length
                told = sums_plan(p, house_count, books) if word == "sums" else (
                    least_plan(p, house_count, books, length // (house_count - 1))
                )
                self.assertEqual((desk.plan, draws), (told, str(len(told.draws))))
                if len(told.draws) * (house_count + 1) <= 600:
                    self.assertEqual(desk.run("make mixed 7 5"), str(len(told.draws) * (house_count + 1)))
                    self.assertEqual(desk.plan, mixed_plans(told, turned_plan(told), 7, 5))
                self.assertIs(type(desk.plan), Plan)

    def test_one_book(self):
        desk = Desk(Library(5, ((1, 2, 3),)), 2)
        self.assertEqual(answers(desk, ("wastes 0", "spent 0", "seen 2", "ask 0 0")), ["0 - -", "3", "hidden", "1,2,3"])
        self.assertEqual(answers(desk, ("plan least", "wastes 0", "guess 0,1")), ["1", "0 - -", "1"])

    def test_many_wastes(self):
        desk = Desk(Library(2, ((1,), (0,), (1,), (1,))), 2)
        self.assertEqual(desk.run("wastes 3,1,0,2"), "0 3/2,1,1/2 0,0,0")
        self.assertEqual(desk.run("plan sums"), "16")
        self.assertEqual(desk.run("wastes 0,1,2,3"), "0 0,0,0 0,0,0")

    def test_against_the_words(self):
        rng = random.Random(42)
        used = set()
        for library, house_count, plans in libraries() * 2:
            desk, told = Desk(library, house_count), DeskByWords(library, house_count)
            for _ in range(40):
                line = some_line(rng, told, plans)
                used.add(" ".join(line.split(" ")[:2]) if line[:4] in ("plan", "make") else line.split(" ")[0])
                expected = told.run(line)
                found = desk.run(line)
                self.assertIs(type(found), str)
                self.assertEqual((found, desk.lines), (expected, tuple(told.done)), line)
                self.assertEqual((desk.plan, desk.library), (told.plan, told.library))
        self.assertEqual(len(used), 15)


class Undoing(Checks):
    def check_nothing(self, desk, word):
        before = (desk.lines, desk.plan, desk.library)
        with self.assertRaises(NothingToUndo) as caught:
            desk.run(word)
        self.assertEqual(caught.exception.word, word)
        self.assertEqual((desk.lines, desk.plan, desk.library), before)

    def test_nothing_to_undo(self):
        desk = Desk(SMALL, 2)
        for line in ("ask 0 0", "spent 1", "seen 1", "wastes 0,1", "guess 0"):
            for word in ("undo", "redo"):
                self.check_nothing(desk, word)
            desk.run(line)
        desk.run("plan least")
        self.check_nothing(desk, "redo")
        desk.run("undo")
        self.check_nothing(desk, "undo")
        desk.run("redo")
        self.check_nothing(desk, "redo")

    def test_several_in_a_row(self):
        desk = Desk(SMALL, 2)
        lines = ["plan least", "book 0 0", "make turned", "book 1 1", "make reordered 1,0"]
        states = [(desk.lines, desk.plan, desk.library)]
        for line in lines:
            desk.run(line)
            states.append((desk.lines, desk.plan, desk.library))
        self.assertEqual(desk.lines, tuple(lines))
        for back in range(5):
            self.assertEqual(desk.run("undo"), "")
            self.assertEqual((desk.lines, desk.plan, desk.library), states[4 - back])
        self.check_nothing(desk, "undo")
        for on in range(5):
            self.assertEqual(desk.run("redo"), "")
            self.assertEqual((desk.lines, desk.plan, desk.library), states[on + 1])
        self.check_nothing(desk, "redo")

    def test_editions_are_undone_too(self):
        desk = Desk(SMALL, 2)
        self.assertEqual(answers(desk, ("book 0 0", "book 0 1", "book 1 1", "undo", "undo")), ["1", "2", "3", "", ""])
        self.assertEqual(desk.library, Library(2, ((0,), (0,))))
        self.assertEqual(answers(desk, ("redo", "book 1 0", "undo", "book 1 1")), ["", "3", "", "3"])

    def test_redo_after_a_further_line(self):
        desk = Desk(SMALL, 2)
        answers(desk, ("plan least", "book 0 0", "undo", "undo"))
        # Lines that tell only leave what can be done again.
        answers(desk, ("ask 0 0", "spent 0", "seen 2", "wastes 1,0", "guess 0,1", "redo"))
        self.assertEqual(desk.lines, ("plan least",))
        desk.run("book 1 1")
        self.check_nothing(desk, "redo")
        self.assertEqual(answers(desk, ("undo", "redo", "undo")), ["", "", ""])
        self.assertEqual(desk.lines, ("plan least",))

    def test_redo_after_a_line_that_raises(self):
        desk = Desk(SMALL, 2)
        answers(desk, ("plan least", "book 0 0", "undo"))
        for line in (
            "book 2 0", "book 0 2", "book 0 0,0", "plan whole 2", "make reordered 0,0", "make rehoused 0", "ask 2 0",
            "make mixed 0 1", "plan", "make", "book", "plans", "", "undo ", "redo 1", "plan  least", "guess 2",
        ):
            self.assertRaises(ValueError, desk.run, line)
            self.assertEqual((desk.lines, desk.library), (("plan least",), SMALL))
        self.assertEqual(desk.run("redo"), "")
        self.assertEqual((desk.lines, desk.library), (("plan least", "book 0 0"), Library(2, ((0,), (0,)))))

    def test_a_desk_changes_nothing_else(self):
        library = Library(2, ((1,), (0,)))
        desk, other = Desk(library, 2), Desk(library, 2)
        answers(desk, ("book 0 0", "plan least", "make turned"))
        self.assertEqual((library, library.books), (SMALL, ((1,), (0,))))
        self.assertEqual((other.lines, other.library), ((), SMALL))


if __name__ == "__main__":
    unittest.main()
