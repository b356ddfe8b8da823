"""Promise [25]: papers of wastes."""

import itertools
import unittest

from tests.plansamples import (
    least_plans, least_sample, lots_by_hand, mixture, points_sample, right_plans, sums_sample, wasting_plans,
    whole_sample, with_idle_house,
)
from tests.samples import ANY_VALUES, NO_INTEGERS, nested
from tests.test_rankpapers import other_papers
from tests.test_wastes import NO_TOGETHER, Checks, orders_of, togethers_of
from wishunseen.accounts import wastes_of
from wishunseen.matrices import rank_of
from wishunseen.rankpapers import rank_holds
from wishunseen.shares import Share
from wishunseen.wastepapers import waste_holds, waste_paper

HIDDEN = wasting_plans() + least_plans() + right_plans()
NO_SHARES = (0, 1, 2, True, False, None, "", "0", "1/2", (), [], (Share(0),), [Share(0)])


def ranked_rows(plan, order, together):
    """The rows of each rank, in the sequence of the document."""
    everyone, lots = [tuple(range(plan.house_count))], lots_by_hand(plan, together)
    found = rows_by_draws(plan, order[0], everyone, ())
    for k in range(plan.book_count - 1):
        for wish in (order[k], order[k + 1]):
            found += rows_by_draws(plan, wish, everyone, order[:k + 1])
            found += rows_by_draws(plan, wish, lots, order[:k + 1])
    return found


def rows_by_draws(plan, wish, lots, known):
    length = plan.book_length
    kept = [column for column in range(length * plan.book_count) if column // length not in known]
    return [
        tuple(
            tuple(row[column] for column in kept) for house in lot for row in plan.questions[house][asks[wish][house]]
        )
        for lot in lots for _, asks in plan.draws
    ]


def some():
    """Small plans with orders and numbers of houses, of each kind of waste."""
    sums = sums_sample(2, 3, 2)
    return [
        (least_sample(2, 2, 2), (0, 1), 1), (least_sample(3, 2, 2), (1, 0), 1), (least_sample(2, 3, 1), (0,), 2),
        (sums, (1, 0), 2), (whole_sample(2, 2, 2, 1, 1), (0, 1), 1), (least_sample(2, 2, 3), (2, 0, 1), 1),
        (mixture(least_sample(2, 2, 2), whole_sample(2, 2, 2, 1, 0), 3, 10 ** 30), (1, 0), 1),
        (with_idle_house(least_sample(2, 2, 2)), (0, 1), 1),
    ]


def other_claims(claim):
    """Claims that differ from this one at one place."""
    vain, beyond, twice = claim
    shares = NO_SHARES + (vain + 1, vain - 1, vain + Share(1, 10 ** 60), str(vain), nested(10))
    found = [(other, beyond, twice) for other in shares if type(other) is not Share or other != vain]
    for at in (1, 2):
        part = claim[at]
        others = [list(part), (*part, Share(0)), None, True, 0, "", nested(10), (part,)]
        others += [part[1:], (*part, part[0])] if part else []
        for place, share in enumerate(part):
            for other in NO_SHARES + (share + 1, share - 1, share + Share(1, 3), str(share), share.top):
                others.append((*part[:place], other, *part[place + 1:]))
        found += [(*claim[:at], other, *claim[at + 1:]) for other in others]
    return found + [
        list(claim), claim[:2], claim[1:], (*claim, ()), (*claim, vain), (), None, True, 0, "claim", vain, {},
        nested(10), (beyond, vain, twice), (claim,),
    ]


class Papers(Checks):
    def test_each_order_and_together(self):
        for plan in HIDDEN:
            for order, together in itertools.product(orders_of(plan)[:6], togethers_of(plan)):
                paper, claim = waste_paper(plan, order, together), wastes_of(plan, order, together)
                self.assertIs(waste_holds(plan, order, together, claim, paper), True)
                self.assertEqual(waste_paper(together=together, order=list(order), plan=plan), paper)
                self.assertIs(
                    waste_holds(paper=paper, claim=claim, together=together, order=list(order), plan=plan), True,
                )
            if togethers_of(plan)[:1] == [1]:
                self.assertEqual(waste_paper(plan, order), waste_paper(plan, order, 1))

    def test_each_rank_is_shown_in_turn(self):
        for plan in HIDDEN:
            for order, together in itertools.product(orders_of(plan)[:3], togethers_of(plan)):
                paper, turn = waste_paper(plan, order, together), ranked_rows(plan, order, together)
                self.assertTrue(type(paper) is tuple and len(paper) == len(turn))
                for rows, pair in zip(turn, paper):
                    self.assertTrue(type(pair) is tuple and len(pair) == 2)
                    self.assertEqual(pair[0], rank_of(plan.p, rows))
                    self.assertIs(rank_holds(plan.p, rows, *pair), True)

    def test_papers_made_otherwise(self):
        several = 0
        for plan, order, together in some():
            claim, paper = wastes_of(plan, order, together), waste_paper(plan, order, together)
            turn = ranked_rows(plan, order, together)
            last = []
            for at, rows in enumerate(turn):
                columns = len(rows[0]) if rows else 0
                rank = paper[at][0]
                papers = other_papers(plan.p, columns, rows, rank)
                several += len(papers) > 1
                last.append((rank, papers[-1]))
                for other in papers:
                    made = (*paper[:at], (rank, other), *paper[at + 1:])
                    self.assertIs(waste_holds(plan, order, together, claim, made), True)
            self.assertIs(waste_holds(plan, order, together, claim, tuple(last)), True)
        self.assertGreater(several, 50)

    def test_the_errors_of_wastes_of(self):
        plan, seen = least_sample(2, 3, 2), points_sample(3, 2)
        for value in NO_INTEGERS + ((), [0], (0, 0), (0, 2), (True, 0), (0, 1, 0), (0, -1), nested(10), {}, "01"):
            self.check_number(value, waste_paper, plan, value)
            self.check_number(value, waste_paper, plan, value, None)
        for value in NO_TOGETHER + (4,):
            self.check_number(value, waste_paper, plan, (1, 0), value)
        self.check_undefined(waste_paper, plan, (1, 0), 2)
        self.check_undefined(waste_paper, seen, [1, 0], 2)


class Spoilt(unittest.TestCase):
    def check_none(self, plan, order, together, claim, paper):
        self.assertIs(waste_holds(plan, order, together, claim, paper), False, (claim, paper))

    def test_claims(self):
        for plan, order, together in some():
            claim, paper = wastes_of(plan, order, together), waste_paper(plan, order, together)
            for other in other_claims(claim):
                self.check_none(plan, order, together, other, paper)
            again = (Share(claim[0].top, claim[0].bottom), *claim[1:])
            self.assertIs(waste_holds(plan, order, together, again, paper), True)

    def test_claims_of_other_plans(self):
        plan = sums_sample(2, 3, 2)
        one, two = (wastes_of(plan, (0, 1), together) for together in (1, 2))
        self.check_none(plan, (0, 1), 1, two, waste_paper(plan, (0, 1), 1))
        self.check_none(plan, (0, 1), 2, one, waste_paper(plan, (0, 1), 2))
        self.check_none(plan, (0, 1), 1, one, waste_paper(plan, (0, 1), 2)[::-1])

    def test_pairs(self):
        for plan, order, together in some():
            claim, paper = wastes_of(plan, order, together), waste_paper(plan, order, together)
            for other in (
                list(paper), paper[1:], paper[:-1], (*paper, paper[-1]), (paper[0], *paper), (), None, True, 0, "paper",
                {}, nested(10), (paper,), (*paper, ()), [list(pair) for pair in paper],
            ):
                self.check_none(plan, order, together, claim, other)
            # Of the long papers every third place is enough: each place takes as long as the whole paper.
            for at in range(0, len(paper), 1 + len(paper) // 60):
                self.check_none(plan, order, together, claim, (*paper[:at], *paper[at + 1:]))
                self.check_none(plan, order, together, claim, (*paper[:at], paper[at], *paper[at:]))
                self.check_pair(plan, order, together, claim, paper, at)

    def check_pair(self, plan, order, together, claim, paper, at):
        rank, inner = paper[at]
        places, sums, columns, back = inner
        spoilt = [
            [rank, inner], (rank,), (rank, inner, inner), (inner, rank), rank, inner, (), None, True, "pair",
            nested(10), (rank + 1, inner), (rank - 1, inner), (None, inner), (str(rank), inner), (Share(rank), inner),
            (bool(rank), inner) if rank < 2 else ((rank,), inner), (10 ** 40, inner),
            (rank, list(inner)), (rank, inner[:3]), (rank, (*inner, ())), (rank, None), (rank, ()), (rank, nested(10)),
            (rank, (list(places), sums, columns, back)), (rank, (places, list(sums), columns, back)),
            (rank, (places, sums, list(columns), back)), (rank, (places, sums, columns, list(back))),
            (rank, (places, (*sums, ()), columns, back)), (rank, ((*places, 0), sums, columns, back)),
        ]
        # Any values at all at some of the places only: it takes long at each.
        values = ANY_VALUES if at % 5 == 0 else ()
        spoilt += [(rank, (places, sums, columns, value)) for value in values if value != back]
        for other in spoilt:
            self.check_none(plan, order, together, claim, (*paper[:at], other, *paper[at + 1:]))

    def test_pairs_exchanged(self):
        exchanged = 0
        for plan, order, together in some():
            claim, paper = wastes_of(plan, order, together), waste_paper(plan, order, together)
            turn = ranked_rows(plan, order, together)
            for one, other in itertools.combinations(range(min(len(paper), 40)), 2):
                made = list(paper)
                made[one], made[other] = made[other], made[one]
                holds = all(rank_holds(plan.p, turn[at], *made[at]) for at in (one, other))
                self.assertIs(waste_holds(plan, order, together, claim, tuple(made)), holds)
                exchanged += not holds
        self.assertGreater(exchanged, 300)

    def test_any_value(self):
        plan, order = least_sample(2, 2, 2), (0, 1)
        claim, paper = wastes_of(plan, order), waste_paper(plan, order)
        for value in ANY_VALUES + (nested(10), {}, ((),) * 3, ((),) * 14, (0,) * 14, "x" * 14, ["x"] * 14):
            self.check_none(plan, order, 1, claim, value)
            self.check_none(plan, order, 1, value, paper)
            self.check_none(plan, order, 1, value, value)
            self.check_none(plan, order, 1, (value, value, value), paper)
            self.check_none(plan, order, 1, claim, (value,) * len(paper))

    def test_of_one_book(self):
        plan = least_sample(2, 3, 1)
        paper = waste_paper(plan, (0,), 3)
        self.assertEqual(len(paper), 1)
        self.assertIs(waste_holds(plan, (0,), 3, (Share(0), (), ()), paper), True)
        for claim in ((Share(0), (Share(0),), ()), (Share(0), (), (Share(0),)), (0, (), ()), (Share(0), [], ())):
            self.check_none(plan, (0,), 3, claim, paper)


if __name__ == "__main__":
    unittest.main()
