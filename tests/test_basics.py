"""Promises [1], [2] and [4], as far as the modules that have landed have to do with them."""

import copy
import unittest

from wishunseen.accounts import apart_rank, excess_of, is_least, joint_rank, least_mean, spent_by, wastes_of
from wishunseen.asked import first_told
from wishunseen.askers import Asker
from wishunseen.decoding import polynomial_near, polynomial_through, value_at
from wishunseen.desk import Desk, replayed_desk
from wishunseen.editions import Shelf
from wishunseen.errors import (
    InvalidAnswers, InvalidLibrary, InvalidLine, InvalidMatrix, InvalidNumber, InvalidPlan, InvalidTape, InvalidText,
    Undefined, UnknownWord, WishError,
)
from wishunseen.fields import inverse_of
from wishunseen.hidden import first_seen, guess_chance, seen_by
from wishunseen.houses import House
from wishunseen.leastplan import least_plan
from wishunseen.libraries import Library, every_library
from wishunseen.lines import Line, talk_over
from wishunseen.making import (
    beside_plans, left_out_plan, mixed_plans, rehoused_plan, remixed_plan, reordered_plan, turned_plan,
)
from wishunseen.matrices import (
    in_span, matrix_product, products, rank_of, reduced_rows, sum_to, without_columns, zero_rows,
)
from wishunseen.pages import pages_of, text_of
from wishunseen.plans import Plan
from wishunseen.plantexts import read_plan, write_plan
from wishunseen.points import PointPlan
from wishunseen.rankpapers import rank_holds, rank_paper
from wishunseen.right import first_shaken, first_unread, read_book, reader_of
from wishunseen.shares import Share, total_of
from wishunseen.sums import sums_plan, whole_plan
from wishunseen.tables import TablePlan, as_table
from wishunseen.veils import (
    VeiledPlan, first_unread_veiled, first_unveiled, least_veiled, veiled_least_plan, veiled_reader,
)
from wishunseen.wastepapers import waste_holds, waste_paper

ROWS = ((1, 2, 0), (2, 1, 0), (0, 1, 1))
# Two houses, two books of one letter for 3; both wishes are read by draw 0, and none by draw 1.
QUESTIONS = [[(), ((1, 2),)], [((0, 1),), ((1, 0),)]]
DRAWS = [[2, [[1, 0], [1, 1]]], [1, [[0, 0], [0, 1]]]]
MADE = [[2, [[((1, 2),), ((0, 1),)], [((1, 2),), ()]]]]
PLAN = Plan(3, 1, 2, QUESTIONS, DRAWS)
TABLES = [[(0, ((), ())), (1, ((0,), (1,)))]]
TABLE = as_table(PLAN)
# A plan that wastes, and one with the same numbers as a table; both are right and hidden from two houses.
SUMS = sums_plan(2, 3, 2)
SUMS_TABLE = as_table(SUMS)
WASTES = wastes_of(SUMS, [1, 0], 2)
PAPER = waste_paper(SUMS, [1, 0], 2)
POINTS = PointPlan(5, 4, 2, 1, 1, 0)
ROW = [1, 2, 3, 4]
BOOKS = Library(5, ((1, 2), (3, 4)))
LEAST = least_plan(3, 2, 2)
SHELF = Shelf(Library(3, ((1,), (2,))))
VEILED = veiled_least_plan(3, 2, 2)
MASKS = [[((1,),), ((2,),)], [((0,),), ((1,),)]]
SPOILT = VeiledPlan(VEILED.plan, 1, MASKS)
# Functions with arguments that they take; where a sequence is expected, it is a list.
CALLS = (
    (reduced_rows, [3, ROWS]), (rank_of, [3, ROWS]), (without_columns, [3, ROWS, [0, 2]]),
    (in_span, [3, ROWS, [1, 0, 2]]), (sum_to, [3, ROWS, [1, 2, 0]]), (zero_rows, [3, ROWS, 3]),
    (products, [3, ROWS, [1, 2, 1]]), (matrix_product, [3, ROWS, ((1, 0), (0, 2), (1, 1))]),
    (rank_paper, [3, ROWS]), (rank_holds, [3, ROWS, 2, rank_paper(3, ROWS)]),
    (pages_of, [3, 4, "a wish"]), (text_of, [3, [list(book) for book in pages_of(3, 4, "a wish")]]),
    (total_of, [[Share(1, 2), 3]]), (every_library, [2, 1, 2]), (Library, [3, [[1, 0], [2, 2]]]),
    (Library.of_letters, [3, 2, [1, 0, 2, 2]]), (Library(3, ((1, 0), (2, 2))).changed, [1, [0, 0]]),
    (Plan, [3, 1, 2, QUESTIONS, DRAWS]), (Plan.made, [3, 1, 2, 2, MADE]), (TablePlan, [2, 1, 1, TABLES, [[2, [[1]]]]]),
    (PLAN.asked, [0, 1]), (PLAN.asked_rows, [0, 0]), (PLAN.answer, [0, 1, Library(3, ((1,), (2,)))]),
    (PLAN.answers, [0, 0, Library(3, ((1,), (2,)))]), (TABLE.answers, [0, 0, Library(3, ((1,), (2,)))]),
    (TABLE.asked, [1, 1]), (TABLE.answer, [1, 0, Library(3, ((1,), (2,)))]), (write_plan, [PLAN]),
    (read_plan, [write_plan(PLAN)]), (as_table, [PLAN]), (first_unread, [PLAN]), (first_unread, [TABLE]),
    (reader_of, [PLAN, 0, 0]), (read_book, [PLAN, 0, 0, [[2], [1]]]), (read_book, [TABLE, 0, 0, [[2], [1]]]),
    (first_shaken, [PLAN, 1, 0]), (first_shaken, [TABLE, 0, 0]), (seen_by, [PLAN, [0, 1], 1]),
    (seen_by, [TABLE, [1], 0]), (first_seen, [PLAN]), (first_seen, [TABLE, 2]), (guess_chance, [PLAN, [1]]),
    (spent_by, [PLAN, 1]), (spent_by, [TABLE, 1]), (least_mean, [3, 2, 4, 1, 1, 0]), (joint_rank, [PLAN, 0, [1]]),
    (apart_rank, [PLAN, 0, [0], 2]), (wastes_of, [SUMS, [0, 1], 2]), (excess_of, [SUMS]), (excess_of, [SUMS_TABLE, 2]),
    (is_least, [SUMS]), (is_least, [TABLE]), (waste_paper, [SUMS, [1, 0]]), (least_plan, [3, 2, 2, 2]),
    (waste_holds, [SUMS, [1, 0], 2, WASTES, PAPER]), (sums_plan, [3, 2, 2]), (whole_plan, [3, 2, 2, 2, 1]),
    (reordered_plan, [LEAST, [1, 0]]), (rehoused_plan, [LEAST, [1, 0]]), (remixed_plan, [LEAST, 1, 1, ((2,),)]),
    (beside_plans, [LEAST, PLAN]), (mixed_plans, [LEAST, PLAN, 2, 3]), (turned_plan, [LEAST]),
    (left_out_plan, [LEAST, 1]), (polynomial_through, [5, [1, 2], [3, 4]]), (value_at, [5, [1, 2], 3]),
    (polynomial_near, [5, [0, 1, 2], [3, 4, 3], 1, 1]), (POINTS.asks, [1, [1, 2, 3, 4]]), (POINTS.answer, [ROW, BOOKS]),
    (POINTS.read, [[1, 2, None, 4]]), (POINTS.excess, []), (PointPlan(3, 2, 2, 1, 0, 0).as_plan, []),
    (POINTS.veiled_answer, [2, ROW, BOOKS, [4]]), (VEILED.answer, [0, 1, SHELF.at(), [2]]),
    (VeiledPlan, [VEILED.plan, 1, MASKS]), (first_unread_veiled, [VEILED]), (first_unread_veiled, [SPOILT]),
    (first_unveiled, [VEILED]), (first_unveiled, [SPOILT]),
    (veiled_reader, [VEILED, 1, 1]), (least_veiled, [6, 2, 1, 2, 1]), (veiled_least_plan, [5, 3, 2]),
    (talk_over, [LEAST, SHELF, 1, [0, 1], [3, 1, 2], 4]), (first_told, [LEAST, [1], ["a", "b", "a"]]),
    (House(0, LEAST, SHELF).hear, [("ask", 3, 0, 1)]), (first_told, [as_table(LEAST), [0], ["a"]]),
    (replayed_desk, [SHELF.at(), 2, ["plan least", "book 1 0", "undo"]]),
)
# Calls of which more than one error is told: the first one told is raised, with its argument.
FIRST_ERRORS = (
    (lambda: inverse_of(4, 7), InvalidNumber, 4), (lambda: inverse_of(4, 0), InvalidNumber, 4),
    (lambda: sum_to(4, None, (1,)), InvalidNumber, 4), (lambda: sum_to(2, [], (1,)), InvalidMatrix, []),
    (lambda: sum_to(2, (), (1,)), Undefined, "sum"), (lambda: rank_holds(4, None, None, None), InvalidNumber, 4),
    (lambda: rank_holds(2, None, None, None), InvalidMatrix, None), (lambda: Library(4, None), InvalidNumber, 4),
    (lambda: Library(2, None), InvalidLibrary, None),
    (lambda: Library(2, ((1,),)).changed(1, None), InvalidNumber, 1),
    (lambda: Library(2, ((1,),)).changed(0, None), InvalidLibrary, None),
    (lambda: Shelf(Library(2, ((1,),))).put(1, None), InvalidNumber, 1),
    (lambda: pages_of(4, 1, "\n"), InvalidNumber, 4), (lambda: pages_of(2, 1, "\n"), InvalidText, "\n"),
    (lambda: text_of(4, None), InvalidNumber, 4), (lambda: text_of(2, None), Undefined, "text"),
    (lambda: Plan(4, 0, 0, None, None), InvalidPlan, "field"),
    (lambda: Plan(3, 0, 0, None, None), InvalidPlan, "length"),
    (lambda: TablePlan(3, 1, 0, None, None), InvalidPlan, "count"),
    (lambda: Plan.made(3, 1, 1, 0, None), InvalidPlan, "houses"),
    (lambda: Plan.made(3, 1, 1, 1, None), InvalidPlan, "draws"),
    (lambda: PLAN.asked_rows(2, 3), InvalidNumber, 2), (lambda: PLAN.answers(0, 3, None), InvalidNumber, 3),
    (lambda: PLAN.answer(2, 3, None), InvalidNumber, 2), (lambda: TABLE.answers(0, 0, 5), InvalidLibrary, 5),
    (lambda: reader_of(PLAN, 2, 3), InvalidNumber, 2), (lambda: reader_of(PLAN, 1, 1), Undefined, "reader"),
    (lambda: read_book(PLAN, 0, 2, None), InvalidNumber, 2), (lambda: read_book(TABLE, 0, 0, 7), InvalidAnswers, 7),
    (lambda: first_shaken(PLAN, -1, -2), InvalidNumber, -1), (lambda: first_shaken(PLAN, 2, 0), Undefined, "houses"),
    (lambda: seen_by(PLAN, (), 2), InvalidNumber, ()), (lambda: seen_by(PLAN, (0,), 2), InvalidNumber, 2),
    (lambda: least_mean(3, 0, 2, 5, -1, -2), InvalidNumber, 0),
    (lambda: least_mean(3, 2, 2, 5, 0, -2), InvalidNumber, -2),
    (lambda: joint_rank(PLAN, 2, (2,)), InvalidNumber, 2), (lambda: apart_rank(PLAN, 0, (2,), 3), InvalidNumber, (2,)),
    (lambda: apart_rank(PLAN, 0, (), 3), InvalidNumber, 3), (lambda: wastes_of(PLAN, (0,), 3), InvalidNumber, (0,)),
    (lambda: wastes_of(PLAN, (0, 1), 3), InvalidNumber, 3), (lambda: wastes_of(PLAN, (0, 1)), Undefined, "wastes"),
    (lambda: waste_paper(PLAN, (0, 1), 3), InvalidNumber, 3), (lambda: waste_paper(PLAN, (0, 1)), Undefined, "wastes"),
    (lambda: excess_of(TABLE, 3), InvalidNumber, 3), (lambda: excess_of(TABLE), Undefined, "wastes"),
    (lambda: least_plan(2, 7, 5, 0), InvalidNumber, 7), (lambda: least_plan(2, 6, 5, 0), InvalidNumber, 5),
    (lambda: sums_plan(2, 7, 9), InvalidNumber, 7), (lambda: whole_plan(2, 1, 0, -1, 1), InvalidNumber, 0),
    (lambda: remixed_plan(LEAST, 2, 2, None), InvalidNumber, 2),
    (lambda: remixed_plan(LEAST, 0, 0, 5), InvalidMatrix, 5),
    (lambda: mixed_plans(LEAST, SUMS, 0, 0), InvalidPlan, "mixed"),
    (lambda: beside_plans(LEAST, SUMS), InvalidPlan, "beside"),
    (lambda: mixed_plans(LEAST, LEAST, 0, -1), InvalidNumber, 0), (lambda: left_out_plan(LEAST, 2), InvalidNumber, 2),
    (lambda: left_out_plan(least_plan(2, 2, 1), 0), Undefined, "book"),
    (lambda: polynomial_near(4, (0, 1), (0, 1), 1, 0), InvalidNumber, 4),
    (lambda: polynomial_near(5, (0, 1), (0, 1), 1, 0), Undefined, "polynomial"),
    (lambda: PointPlan(4, 0, 0, 0, -1, -1), InvalidPlan, "points"), (lambda: POINTS.asks(2, None), InvalidNumber, 2),
    (lambda: POINTS.asks(0, 7), InvalidTape, 7), (lambda: POINTS.answer(7, 8), InvalidAnswers, 7),
    (lambda: POINTS.answer(ROW, 8), InvalidLibrary, 8), (lambda: POINTS.read(7), InvalidAnswers, 7),
    (lambda: POINTS.read([None] * 4), Undefined, "book"),
    (lambda: PointPlan(7, 6, 4, 1, 0, 0).as_plan(), Undefined, "plan"),
    (lambda: POINTS.veiled_answer(4, 7, 8, 9), InvalidNumber, 4),
    (lambda: POINTS.veiled_answer(0, 7, 8, 9), InvalidAnswers, 7),
    (lambda: POINTS.veiled_answer(0, ROW, 8, 9), InvalidLibrary, 8),
    (lambda: POINTS.veiled_answer(0, ROW, BOOKS, 9), InvalidTape, 9),
    (lambda: VeiledPlan(LEAST, 0, None), InvalidPlan, "common"),
    (lambda: VeiledPlan(LEAST, 1, None), InvalidPlan, "masks"), (lambda: VEILED.answer(2, 2, 8, 9), InvalidNumber, 2),
    (lambda: VEILED.answer(0, 0, 8, 9), InvalidLibrary, 8),
    (lambda: VEILED.answer(0, 0, SHELF.at(), 9), InvalidTape, 9),
    (lambda: veiled_reader(VEILED, 2, 3), InvalidNumber, 2), (lambda: least_veiled(3, 0, 5, -1, -2), InvalidNumber, 0),
    (lambda: least_veiled(3, 2, 5, 0, -2), InvalidNumber, -2),
    (lambda: least_veiled(3, 2, 3), InvalidNumber, 3), (lambda: veiled_least_plan(2, 7, 5), InvalidNumber, 7),
    (lambda: House(2, LEAST, SHELF), InvalidNumber, 2), (lambda: Asker(PLAN, 2, ()), Undefined, "reader"),
    (lambda: Asker(LEAST, 2, ()), InvalidNumber, 2), (lambda: talk_over(LEAST, SHELF, 0, (), (), 0), InvalidNumber, ()),
    (lambda: first_told(LEAST, (2,), ("a",)), InvalidNumber, (2,)), (lambda: Desk(None, 0), InvalidLibrary, None),
    (lambda: Desk(BOOKS, 0), InvalidNumber, 0), (lambda: Desk(BOOKS, 1).run("plans x"), UnknownWord, "plans"),
    (lambda: Desk(BOOKS, 1).run("plan least 1"), InvalidLine, "plan least 1"),
    (lambda: Desk(BOOKS, 1).run("plan least"), Undefined, "plan"),
)


def all_tuples(value):
    """Whether no list stands in what was returned, however deep."""
    if isinstance(value, tuple):
        return all(all_tuples(inner) for inner in value)
    if isinstance(value, Library):
        return all_tuples((value.books, value.letters))
    if isinstance(value, (Plan, TablePlan)):
        return all_tuples((value.questions, value.draws))
    if isinstance(value, VeiledPlan):
        return all_tuples((value.plan, value.masks))
    if isinstance(value, Desk):
        return all_tuples((value.lines, value.plan, value.library))
    return value is None or isinstance(value, (int, str, Share))


def inside(value):
    """The attributes of an object, also if it has no ==; any other value itself."""
    return vars(value) if hasattr(value, "__dict__") else value


def told(value):
    """What a value tells; of objects without == their attributes."""
    if isinstance(value, VeiledPlan):
        return (value.plan, value.common, value.masks)
    if isinstance(value, Desk):
        return (value.lines, value.plan, value.library)
    return value


class Basics(unittest.TestCase):
    def test_what_is_returned_are_tuples(self):
        for function, arguments in CALLS:
            self.assertTrue(all_tuples(function(*arguments)), function)

    def test_arguments_stay_as_they_are(self):
        for function, arguments in CALLS:
            before = copy.deepcopy(arguments)
            function(*arguments)
            self.assertEqual([inside(value) for value in arguments], [inside(value) for value in before], function)

    def test_equal_calls_return_equal_results(self):
        for function, arguments in CALLS:
            self.assertEqual(told(function(*arguments)), told(function(*copy.deepcopy(arguments))), function)

    def test_lists_and_tuples_are_alike(self):
        for function, arguments in CALLS:
            others = [tuple(part) if isinstance(part, list) else part for part in arguments]
            self.assertEqual(told(function(*arguments)), told(function(*others)), function)

    def test_what_tells_whether_is_true_or_false(self):
        for told in (
            in_span(3, ROWS, (0, 0, 0)), rank_holds(3, ROWS, 2, rank_paper(3, ROWS)), bool(Share(1)), Share(1).below(2),
            is_least(least_plan(2, 2, 2)), waste_holds(SUMS, (1, 0), 2, WASTES, PAPER),
            PLAN == read_plan(write_plan(PLAN)), PLAN != TABLE,
        ):
            self.assertIs(told, True)

    def test_errors_in_their_order(self):
        for call, kind, kept in FIRST_ERRORS:
            with self.assertRaises(WishError) as caught:
                call()
            self.assertIs(type(caught.exception), kind)
            self.assertEqual(next(iter(vars(caught.exception).values())), kept)

    def test_objects_do_not_change(self):
        share, library = Share(1, 2), Library(3, ((1, 0), (2, 2)))
        before = [copy.deepcopy(vars(share)), copy.deepcopy(vars(library))]
        share + 1, 1 - share, share * share, -share, share.over(3), share.below(0), str(share), bool(share)
        share == share, total_of([share, share])
        library.book(0), library.changed(0, (0, 0)), library == library, Shelf(library).put(0, (2, 2))
        self.assertEqual([vars(share), vars(library)], before)

    def test_plans_do_not_change(self):
        for plan in (PLAN, TABLE):
            before = copy.deepcopy(vars(plan))
            plan.asked(0, 0), plan.answer_size(0, 1), plan.answers(1, 1, Library(3, ((1,), (2,)))), plan == TABLE
            first_unread(plan), first_shaken(plan, 1, 0), first_seen(plan, 2), seen_by(plan, [0], 0)
            guess_chance(plan, [0, 1]), read_book(plan, 0, 0, ((2,), (1,))), spent_by(plan, 1), is_least(plan, 2)
            self.assertEqual(vars(plan), before)


if __name__ == "__main__":
    unittest.main()
