"""Papers of wastes: what shows the wastes of a plan by papers of rank."""

from wishunseen.accounts import check_wastes, rank_groups, rows_besides, wastes_by
from wishunseen.hidden import numbers_of_lot
from wishunseen.rankpapers import rank_holds, rank_paper
from wishunseen.shares import Share


def waste_paper(plan, order, together=1):
    """Some paper for the wastes of the plan."""
    check_wastes(plan, order, together)
    shown = {}
    pairs = []
    for asked in _asked_in_turn(plan, rank_groups(plan, order, together)):
        if asked not in shown:
            shown[asked] = _rank_with_paper(plan, asked)
        pairs.append(shown[asked])
    return tuple(pairs)


def waste_holds(plan, order, together, claim, paper):
    """Whether claim is a triple of wastes and paper one that these are the wastes."""
    if not _is_claim(claim, plan.book_count - 1):
        return False
    groups = rank_groups(plan, order, together)
    turn = _asked_in_turn(plan, groups)
    if not isinstance(paper, tuple) or len(paper) != len(turn):
        return False
    for asked, pair in zip(turn, paper):
        if not _shows_rank(plan, asked, pair):
            return False
    means = _means_of(plan, groups, [rank for rank, _ in paper])
    return wastes_by(plan, order, together, means) == claim


def _asked_in_turn(plan, groups):
    """The lot, the numbers of its questions and the known books of each rank in a paper, in turn."""
    return [
        (lot, numbers_of_lot(asks[wish], lot), known)
        for wish, known, lots in groups for lot in lots for _, asks in plan.draws
    ]


def _rank_with_paper(plan, asked):
    lot, numbers, known = asked
    paper = rank_paper(plan.p, rows_besides(plan, lot, numbers, known))
    return (len(paper[0]), paper)


def _shows_rank(plan, asked, pair):
    """Whether pair is a rank of what is asked, with a paper for it."""
    if not isinstance(pair, tuple) or len(pair) != 2:
        return False
    lot, numbers, known = asked
    rank, paper = pair
    return rank_holds(plan.p, rows_besides(plan, lot, numbers, known), rank, paper)


def _means_of(plan, groups, ranks):
    """The means, by the weights, of the ranks of each group."""
    means = []
    at = 0
    for _, _, lots in groups:
        weights = [weight for weight, _ in plan.draws] * len(lots)
        total = sum([weight * rank for weight, rank in zip(weights, ranks[at:at + len(weights)])])
        means.append(Share(total, plan.weight * len(lots)))
        at = at + len(weights)
    return means


def _is_claim(value, count):
    """Whether value is a triple of a share and two tuples of so many shares."""
    if not isinstance(value, tuple) or len(value) != 3:
        return False
    vain, beyond, twice = value
    return isinstance(vain, Share) and _are_shares(beyond, count) and _are_shares(twice, count)


def _are_shares(value, count):
    if not isinstance(value, tuple) or len(value) != count:
        return False
    return all([isinstance(share, Share) for share in value])
