"""The interface: its names, arguments and own methods, each in the file under which it is listed."""

import importlib
import inspect
import pathlib
import unittest

from wishunseen.askers import Asker
from wishunseen.desk import Desk
from wishunseen.editions import Shelf
from wishunseen.houses import House
from wishunseen.leastplan import least_plan
from wishunseen.libraries import Library
from wishunseen.points import PointPlan
from wishunseen.shares import Share
from wishunseen.tables import as_table
from wishunseen.veils import veiled_least_plan

FUNCTIONS = {
    "shares": ["total_of(shares)"],
    "fields": ["is_field(p)", "inverse_of(p, a)"],
    "matrices": [
        "is_matrix(value, p, columns)", "reduced_rows(p, rows)", "rank_of(p, rows)", "without_columns(p, rows, places)",
        "in_span(p, rows, row)", "sum_to(p, rows, row)", "zero_rows(p, rows, columns)", "products(p, rows, letters)",
        "matrix_product(p, rows, others)",
    ],
    "rankpapers": ["rank_paper(p, rows)", "rank_holds(p, rows, r, paper)"],
    "libraries": ["every_library(p, book_count, book_length)"],
    "pages": ["width_of(p)", "pages_of(p, book_length, text)", "text_of(p, pages)"],
    "plantexts": ["write_plan(plan)", "read_plan(text)"],
    "tables": ["as_table(plan)"],
    "right": [
        "first_unread(plan)", "reader_of(plan, wish, draw)", "read_book(plan, wish, draw, answers)",
        "first_shaken(plan, silent, lying)",
    ],
    "hidden": ["seen_by(plan, lot, wish)", "first_seen(plan, together=1)", "guess_chance(plan, lot)"],
    "accounts": [
        "spent_by(plan, wish)", "least_mean(house_count, book_count, book_length, together=1, silent=0, lying=0)",
        "joint_rank(plan, wish, known)", "apart_rank(plan, wish, known, together=1)",
        "wastes_of(plan, order, together=1)", "excess_of(plan, together=1)", "is_least(plan, together=1)",
    ],
    "wastepapers": ["waste_paper(plan, order, together=1)", "waste_holds(plan, order, together, claim, paper)"],
    "leastplan": ["least_plan(p, house_count, book_count, blocks=1)"],
    "sums": ["sums_plan(p, house_count, book_count)", "whole_plan(p, house_count, book_count, book_length, house)"],
    "making": [
        "reordered_plan(plan, order)", "rehoused_plan(plan, order)", "remixed_plan(plan, house, question, matrix)",
        "beside_plans(one, other)", "mixed_plans(one, other, first=1, second=1)", "turned_plan(plan)",
        "left_out_plan(plan, book)",
    ],
    "decoding": [
        "polynomial_through(p, points, values)", "value_at(p, coefficients, point)",
        "polynomial_near(p, points, values, size, wrong)",
    ],
    "veils": [
        "first_unread_veiled(veiled)", "first_unveiled(veiled)", "veiled_reader(veiled, wish, draw)",
        "least_veiled(house_count, book_length, together=1, silent=0, lying=0)",
        "veiled_least_plan(p, house_count, book_count)",
    ],
    "lines": ["talk_over(plan, shelf, wish, draws, marks, rounds)"],
    "asked": ["first_told(plan, lot, names)"],
    "desk": ["replayed_desk(library, house_count, lines)"],
}

CLASSES = {
    "errors": {
        "WishError": [],
        "InvalidNumber": ["__init__(self, value)"], "InvalidShare": ["__init__(self, value)"],
        "InvalidMatrix": ["__init__(self, value)"], "InvalidLibrary": ["__init__(self, value)"],
        "InvalidPlan": ["__init__(self, part, place)"], "InvalidTape": ["__init__(self, value)"],
        "InvalidAnswers": ["__init__(self, value)"], "InvalidText": ["__init__(self, text, at)"],
        "InvalidLine": ["__init__(self, line, at)"], "UnknownWord": ["__init__(self, word)"],
        "Undefined": ["__init__(self, what)"], "NothingToUndo": ["__init__(self, word)"],
    },
    "shares": {
        "Share": [
            "__init__(self, top, bottom=1)", "__add__(self, other)", "__radd__(self, other)", "__sub__(self, other)",
            "__rsub__(self, other)", "__mul__(self, other)", "__rmul__(self, other)", "__eq__(self, other)",
            "__neg__(self)", "__bool__(self)", "__str__(self)", "over(self, other)", "below(self, other)",
            "told(cls, text)",
        ],
    },
    "libraries": {
        "Library": [
            "__init__(self, p, books)", "__eq__(self, other)", "book(self, k)", "changed(self, k, book)",
            "of_letters(cls, p, book_length, letters)",
        ],
    },
    "plans": {
        "Plan": [
            "__init__(self, p, book_length, book_count, questions, draws)", "__eq__(self, other)",
            "asked(self, wish, draw)", "asked_rows(self, wish, draw)", "answer_size(self, house, question)",
            "answer(self, house, question, library)", "answers(self, wish, draw, library)",
            "made(cls, p, book_length, book_count, house_count, draws)",
        ],
    },
    "tables": {
        "TablePlan": [
            "__init__(self, p, book_length, book_count, questions, draws)", "__eq__(self, other)",
            "asked(self, wish, draw)", "answer_size(self, house, question)", "answer(self, house, question, library)",
            "answers(self, wish, draw, library)",
        ],
    },
    "editions": {"Shelf": ["__init__(self, library)", "put(self, k, book)", "at(self, edition=None)"]},
    "points": {
        "PointPlan": [
            "__init__(self, p, house_count, book_count, together, silent, lying)", "asks(self, wish, tape)",
            "answer(self, ask, library)", "read(self, answers)", "excess(self)", "as_plan(self)",
            "veiled_answer(self, house, ask, library, common)",
        ],
    },
    "veils": {"VeiledPlan": ["__init__(self, plan, common, masks)", "answer(self, house, question, library, tape)"]},
    "houses": {"House": ["__init__(self, number, plan, shelf)", "hear(self, message)"]},
    "askers": {"Asker": ["__init__(self, plan, wish, draws)", "asks(self)", "hear(self, message)"]},
    "lines": {"Line": ["__init__(self, marks)", "send(self, message)", "rest(self)"]},
    "desk": {"Desk": ["__init__(self, library, house_count)", "run(self, line)"]},
}

# The attributes that are set on each object when it is created.
SHELF = Shelf(Library(2, ((1,), (0,))))
LEAST = least_plan(2, 2, 2)
ATTRIBUTES = (
    (Share(1, 2), "top bottom"), (SHELF.at(), "p books book_count book_length letters"), (SHELF, "edition"),
    (LEAST, "p book_length book_count house_count questions draws weight"),
    (as_table(LEAST), "p book_length book_count house_count questions draws weight"),
    (PointPlan(3, 2, 2, 1, 0, 0), "p house_count book_count together silent lying book_length tape_length"),
    (veiled_least_plan(2, 2, 2), "plan common masks"), (House(0, LEAST, SHELF), "heard"),
    (Asker(LEAST, 0, (0,)), "found edition talk"), (Desk(SHELF.at(), 2), "lines plan library"),
)


def written(function):
    return function.__name__ + str(inspect.signature(function))


class Interface(unittest.TestCase):
    def test_functions(self):
        for name, told in FUNCTIONS.items():
            module = importlib.import_module("wishunseen." + name)
            for line in told:
                function = vars(module)[line.partition("(")[0]]
                self.assertEqual(written(function), line)
                self.assertEqual(function.__module__, module.__name__)

    def test_classes(self):
        for name, classes in CLASSES.items():
            module = importlib.import_module("wishunseen." + name)
            for word, methods in classes.items():
                kind = vars(module)[word]
                self.assertEqual(kind.__module__, module.__name__)
                for line in methods:
                    method = vars(kind)[line.partition("(")[0]]
                    self.assertIs(isinstance(method, classmethod), "(cls" in line)
                    self.assertEqual(written(getattr(method, "__func__", method)), line)

    def test_attributes(self):
        for thing, names in ATTRIBUTES:
            self.assertLessEqual(set(names.split()), set(vars(thing)))

    def test_modules(self):
        folder = pathlib.Path(__file__).resolve().parent.parent / "wishunseen"
        names = {path.stem for path in folder.glob("*.py")}
        self.assertEqual(names, set(FUNCTIONS) | set(CLASSES) | {"__init__", "kinds"})


if __name__ == "__main__":
    unittest.main()
