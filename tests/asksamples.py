"""What the tests of houses, askers and lines share."""

from tests.plansamples import product_table
from tests.samples import NO_INTEGERS, nested
from wishunseen.leastplan import least_plan
from wishunseen.libraries import Library
from wishunseen.plans import Plan
from wishunseen.shares import Share
from wishunseen.sums import sums_plan, whole_plan
from wishunseen.tables import as_table

# Values of any kind that are no message, whatever the plan is.
NO_MESSAGES = NO_INTEGERS + (
    0, 1, -1, nested(10), ("ask",), ("ask", 0), ("ask", 0, 0), ["ask", 0, 0, 0], ("ask", 0, 0, 0, 0),
    ("Ask", 0, 0, 0), ("asks", 0, 0, 0), ("", 0, 0, 0), (None, 0, 0, 0), (0, 0, 0, 0), (("ask",), 0, 0, 0),
    ("tell", 0, 0, 0), (Share(1), 0, 0, 0), (Library(2, ((1,),)), 0, 0, 0), ("ask", True, 0, 0), ("ask", 0, False, 0),
    ("ask", 0, 0, False), ("ask", 0, 0, True), ("ask", -1, 0, 0), ("ask", 0, -1, 0), ("ask", 0, 0, -1),
    ("ask", None, 0, 0), ("ask", 0, None, 0), ("ask", 0, 0, None), ("ask", "0", 0, 0), ("ask", 0, "0", 0),
    ("ask", 0, 0, "0"), ("ask", (0,), 0, 0), ("ask", 0, [0], 0), ("ask", 0, 0, (0,)), ("ask", Share(0), 0, 0),
    ("ask", 0, 0, Share(0)), (("ask", 0, 0, 0),), [("ask", 0, 0, 0)], ("answer", 0, 0, 0), "ask",
    ("ask", [], [], []), ("ask", 0, 10 ** 40, 0), ("ask", 0, 0, 10 ** 40), {}, {"ask": 0},
)


def linear_plans():
    """Linear plans that are right, with libraries that can be tabled."""
    return [
        least_plan(2, 2, 2), least_plan(3, 2, 2), least_plan(2, 3, 2), sums_plan(2, 3, 2), whole_plan(3, 3, 1, 2, 1),
        least_plan(2, 2, 3), whole_plan(2, 1, 2, 2, 0),
    ]


def plans():
    """Plans and plans of tables that are right."""
    return linear_plans() + [as_table(plan) for plan in linear_plans()] + [product_table()]


def unread_plans():
    """Plans and plans of tables that are not right."""
    nothing = Plan.made(2, 1, 2, 2, [(1, [[(), ()], [(), ()]])])
    half = Plan.made(2, 1, 2, 2, [(1, [[((1, 0),), ()], [(), ((0, 1),)]]), (1, [[((1, 0),), ()], [(), ((1, 0),)]])])
    return [nothing, half, as_table(nothing), as_table(half)]
