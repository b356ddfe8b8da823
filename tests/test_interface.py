"""The interface: its names, arguments and own methods, each in the file under which it is listed."""

import importlib
import inspect
import unittest

FUNCTIONS = {
    "shares": ["total_of(shares)"],
    "fields": ["is_field(p)", "inverse_of(p, a)"],
    "matrices": [
        "is_matrix(value, p, columns)", "reduced_rows(p, rows)", "rank_of(p, rows)", "without_columns(p, rows, places)",
        "in_span(p, rows, row)", "sum_to(p, rows, row)", "zero_rows(p, rows, columns)", "products(p, rows, letters)",
        "matrix_product(p, rows, others)",
    ],
    "rankpapers": ["rank_paper(p, rows)", "rank_holds(p, rows, r, paper)"],
    "libraries": ["every_library(p, book_count, book_length)"],
    "pages": ["width_of(p)", "pages_of(p, book_length, text)", "text_of(p, pages)"],
    "plantexts": ["write_plan(plan)", "read_plan(text)"],
    "tables": ["as_table(plan)"],
    "right": [
        "first_unread(plan)", "reader_of(plan, wish, draw)", "read_book(plan, wish, draw, answers)",
        "first_shaken(plan, silent, lying)",
    ],
    "hidden": ["seen_by(plan, lot, wish)", "first_seen(plan, together=1)", "guess_chance(plan, lot)"],
    "accounts": [
        "spent_by(plan, wish)", "least_mean(house_count, book_count, book_length, together=1, silent=0, lying=0)",
        "joint_rank(plan, wish, known)", "apart_rank(plan, wish, known, together=1)",
        "wastes_of(plan, order, together=1)", "excess_of(plan, together=1)", "is_least(plan, together=1)",
    ],
    "wastepapers": ["waste_paper(plan, order, together=1)", "waste_holds(plan, order, together, claim, paper)"],
    "leastplan": ["least_plan(p, house_count, book_count, blocks=1)"],
    "sums": ["sums_plan(p, house_count, book_count)", "whole_plan(p, house_count, book_count, book_length, house)"],
}

CLASSES = {
    "errors": {
        "WishError": [],
        "InvalidNumber": ["__init__(self, value)"], "InvalidShare": ["__init__(self, value)"],
        "InvalidMatrix": ["__init__(self, value)"], "InvalidLibrary": ["__init__(self, value)"],
        "InvalidPlan": ["__init__(self, part, place)"], "InvalidTape": ["__init__(self, value)"],
        "InvalidAnswers": ["__init__(self, value)"], "InvalidText": ["__init__(self, text, at)"],
        "InvalidLine": ["__init__(self, line, at)"], "UnknownWord": ["__init__(self, word)"],
        "Undefined": ["__init__(self, what)"], "NothingToUndo": ["__init__(self, word)"],
    },
    "shares": {
        "Share": [
            "__init__(self, top, bottom=1)", "__add__(self, other)", "__radd__(self, other)", "__sub__(self, other)",
            "__rsub__(self, other)", "__mul__(self, other)", "__rmul__(self, other)", "__eq__(self, other)",
            "__neg__(self)", "__bool__(self)", "__str__(self)", "over(self, other)", "below(self, other)",
            "told(cls, text)",
        ],
    },
    "libraries": {
        "Library": [
            "__init__(self, p, books)", "__eq__(self, other)", "book(self, k)", "changed(self, k, book)",
            "of_letters(cls, p, book_length, letters)",
        ],
    },
    "plans": {
        "Plan": [
            "__init__(self, p, book_length, book_count, questions, draws)", "__eq__(self, other)",
            "asked(self, wish, draw)", "asked_rows(self, wish, draw)", "answer_size(self, house, question)",
            "answer(self, house, question, library)", "answers(self, wish, draw, library)",
            "made(cls, p, book_length, book_count, house_count, draws)",
        ],
    },
    "tables": {
        "TablePlan": [
            "__init__(self, p, book_length, book_count, questions, draws)", "__eq__(self, other)",
            "asked(self, wish, draw)", "answer_size(self, house, question)", "answer(self, house, question, library)",
            "answers(self, wish, draw, library)",
        ],
    },
    "editions": {"Shelf": ["__init__(self, library)", "put(self, k, book)", "at(self, edition=None)"]},
}


def written(function):
    return function.__name__ + str(inspect.signature(function))


class Interface(unittest.TestCase):
    def test_functions(self):
        for name, told in FUNCTIONS.items():
            module = importlib.import_module("wishunseen." + name)
            for line in told:
                function = vars(module)[line.partition("(")[0]]
                self.assertEqual(written(function), line)
                self.assertEqual(function.__module__, module.__name__)

    def test_classes(self):
        for name, classes in CLASSES.items():
            module = importlib.import_module("wishunseen." + name)
            for word, methods in classes.items():
                kind = vars(module)[word]
                self.assertEqual(kind.__module__, module.__name__)
                for line in methods:
                    method = vars(kind)[line.partition("(")[0]]
                    self.assertIs(isinstance(method, classmethod), "(cls" in line)
                    self.assertEqual(written(getattr(method, "__func__", method)), line)


if __name__ == "__main__":
    unittest.main()
