"""Plans that the tests of several modules share, made apart from the program's own makers."""

import itertools
import random
from fractions import Fraction

from tests.samples import random_matrix
from wishunseen.libraries import every_library
from wishunseen.plans import Plan
from wishunseen.shares import Share
from wishunseen.tables import TablePlan, as_table

# Values that are no integer above 0, no number of a thing of which there are few, and no sequence.
NO_NUMBERS = (None, True, False, "", "0", "1", (), [], (0,), [1], -1, -10 ** 40)
NO_SEQUENCES = (None, True, False, 0, 1, -1, 10 ** 40, "", "()", "01")


def as_lists(questions, draws):
    """Questions and draws with a list in the place of each tuple, but within questions."""
    return (
        [list(asked) for asked in questions], [[weight, [list(asked) for asked in asks]] for weight, asks in draws],
    )


def random_questions(rng, p, columns, most=13, most_rows=2):
    """A rising sequence of one question or more."""
    found = {random_matrix(rng, p, rng.randint(0, most_rows), columns) for _ in range(rng.randint(1, most))}
    return tuple(sorted(found))


def random_draws(rng, book_count, questions, count, most_weight=5):
    return tuple(
        (
            rng.randint(1, most_weight),
            tuple(tuple(rng.randrange(len(asked)) for asked in questions) for _ in range(book_count)),
        )
        for _ in range(count)
    )


def random_parts(rng, p, houses, book_count, book_length, most=13, most_rows=2, draws=4, most_weight=5):
    """The five parts of some plan."""
    columns = book_count * book_length
    questions = tuple(random_questions(rng, p, columns, most, most_rows) for _ in range(houses))
    return (p, book_length, book_count, questions, random_draws(rng, book_count, questions, draws, most_weight))


def many_parts():
    """Parts of plans of one to three houses, one to four books, and fields from 2 to 31."""
    rng = random.Random(12)
    found = []
    for at, p in enumerate((2, 2, 3, 5, 7, 11, 13, 17, 19, 23, 29, 31)):
        for houses in (1, 2, 3):
            for book_count in (1, 2, 3, 4):
                great = 10 ** 200 - 1 if (at + houses + book_count) % 3 == 0 else 5
                found.append(random_parts(
                    rng, p, houses, book_count, rng.randint(1, 3), draws=rng.randint(1, 5), most_weight=great,
                ))
    return found


def few_parts():
    """Parts of plans with at most 27 libraries, so that all can be tried out."""
    rng = random.Random(13)
    shapes = [
        (2, 1, 1), (2, 1, 2), (2, 2, 1), (2, 2, 2), (2, 3, 1), (2, 1, 3), (2, 4, 1), (3, 1, 1), (3, 2, 1), (3, 3, 1),
        (3, 1, 3), (5, 1, 1), (5, 2, 1), (7, 1, 1), (13, 1, 1),
    ]
    return [
        random_parts(rng, p, houses, book_count, book_length, most=5, draws=rng.randint(1, 4))
        for p, book_count, book_length in shapes for houses in (1, 2, 3) for _ in range(2)
    ]


def unit(columns, at):
    return tuple(int(column == at) for column in range(columns))


def rows_or_none(row):
    """The question of this one row; without rows, if it is a row of noughts."""
    return (tuple(row),) if any(row) else ()


def sums_draws(p, houses, book_count):
    """Draws by which the questions of all houses add up to the wish: right, and hidden from all but one."""
    draws = []
    for tape in itertools.product(range(p), repeat=book_count * (houses - 1)):
        parts = [tape[at:at + book_count] for at in range(0, len(tape), book_count)]
        asks = []
        for wish in range(book_count):
            last = [(unit(book_count, wish)[k] - sum(part[k] for part in parts)) % p for k in range(book_count)]
            asks.append(tuple(rows_or_none(row) for row in [*parts, last]))
        draws.append((1, tuple(asks)))
    return tuple(draws)


def sums_sample(p, houses, book_count):
    return Plan.made(p, 1, book_count, houses, sums_draws(p, houses, book_count))


def least_draws(houses, book_count, blocks=1):
    """The draws of the document, letter by letter: right, hidden from 1, and least."""
    length = blocks * (houses - 1)
    draws = []
    for row in itertools.product(range(houses), repeat=book_count - 1):
        asks = []
        for wish in range(book_count):
            asked = []
            for house in range(houses):
                numbers = [*row[:wish], (house - sum(row)) % houses, *row[wish:]]
                rows = [[0] * (length * book_count) for _ in range(blocks)]
                for book, number in enumerate(numbers):
                    for at in range(blocks if number else 0):
                        rows[at][book * length + (number - 1) * blocks + at] = 1
                asked.append(tuple(tuple(letters) for letters in rows) if any(numbers) else ())
            asks.append(tuple(asked))
        draws.append((1, tuple(asks)))
    return tuple(draws)


def least_sample(p, houses, book_count, blocks=1):
    return Plan.made(p, blocks * (houses - 1), book_count, houses, least_draws(houses, book_count, blocks))


def whole_sample(p, houses, book_count, book_length, house):
    """One house is asked for everything."""
    columns = book_count * book_length
    everything = tuple(unit(columns, at) for at in range(columns))
    asked = tuple(everything if at == house else () for at in range(houses))
    return Plan.made(p, book_length, book_count, houses, [(1, [asked] * book_count)])


def copies_sample(p, houses, book_count, book_length):
    """Each house is asked for the wished book: right, sturdy, and hidden from nobody."""
    columns = book_count * book_length
    asks = [
        [tuple(unit(columns, wish * book_length + at) for at in range(book_length))] * houses
        for wish in range(book_count)
    ]
    return Plan.made(p, book_length, book_count, houses, [(1, asks)])


def points_sample(p, houses):
    """Two books of one letter; any two houses read, and one sees nothing."""
    draws = []
    for tape in itertools.product(range(p), repeat=2):
        asks = [
            [
                rows_or_none([(tape[k] + (point if k == wish else 0)) % p for k in range(2)])
                for point in range(1, houses + 1)
            ]
            for wish in range(2)
        ]
        draws.append((1, asks))
    return Plan.made(p, 1, 2, houses, draws)


def right_plans():
    """Linear plans that are right, with few libraries."""
    return [
        sums_sample(2, 2, 2), sums_sample(3, 2, 2), sums_sample(2, 3, 2), sums_sample(2, 2, 1), sums_sample(2, 2, 3),
        sums_sample(2, 3, 1), least_sample(2, 2, 2), least_sample(3, 2, 2), least_sample(2, 3, 2),
        least_sample(2, 2, 3), whole_sample(2, 1, 2, 1, 0), whole_sample(2, 3, 1, 2, 1), whole_sample(3, 2, 1, 3, 1),
        copies_sample(2, 3, 2, 1), copies_sample(3, 2, 2, 1), points_sample(3, 2), points_sample(5, 3),
        points_sample(5, 4),
    ]


def right_tables():
    """Plans of tables that are right: those of linear plans, and one that is not linear."""
    return [as_table(plan) for plan in right_plans() if plan.p ** (plan.book_count * plan.book_length) <= 64] + [
        product_table(),
    ]


def product_table():
    """Two books of one letter for 2, and answers that are no sums of letters."""
    pairs = list(itertools.product(range(2), repeat=2))
    tables = {
        "and": (1, tuple((one & other,) for one, other in pairs)),
        "or": (1, tuple((one | other,) for one, other in pairs)),
        "sum": (1, tuple((one ^ other,) for one, other in pairs)),
        "first": (1, tuple((one,) for one, _ in pairs)),
        "second": (1, tuple((other,) for _, other in pairs)),
        "none": (0, ((),) * 4),
    }
    one = sorted(tables[word] for word in ("and", "sum", "none"))
    two = sorted(tables[word] for word in ("first", "second", "or", "none"))
    words = (
        (1, (("none", "first"), ("none", "second"))), (2, (("sum", "second"), ("sum", "first"))),
        (3, (("and", "first"), ("and", "second"))),
    )
    draws = [
        (weight, [(one.index(tables[left]), two.index(tables[right])) for left, right in asks])
        for weight, asks in words
    ]
    return TablePlan(2, 1, 2, (one, two), draws)


def random_tables(rng, p, columns, most=5, most_size=2):
    """A rising sequence of one table or more, with the size of its answers."""
    found = set()
    for _ in range(rng.randint(1, most)):
        size = rng.randint(0, most_size)
        found.add((size, random_matrix(rng, p, p ** columns, size)))
    return tuple(sorted(found))


def table_parts():
    """Parts of plans of tables, with 2 to 64 libraries."""
    rng = random.Random(16)
    shapes = [
        (2, 1, 1), (2, 1, 2), (2, 2, 1), (2, 2, 2), (2, 3, 1), (2, 1, 3), (2, 3, 2), (2, 6, 1), (3, 1, 1), (3, 2, 1),
        (3, 1, 2), (3, 3, 1), (5, 1, 1), (5, 2, 1), (7, 1, 1), (7, 2, 1), (31, 1, 1),
    ]
    found = []
    for p, book_count, book_length in shapes:
        for houses in (1, 2, 3):
            questions = tuple(random_tables(rng, p, book_count * book_length) for _ in range(houses))
            draws = random_draws(rng, book_count, questions, rng.randint(1, 4), 10 ** (200 * (houses == 2)) + 4)
            found.append((p, book_length, book_count, questions, draws))
    return found


def draws_of(plan):
    """The draws of a linear plan with the questions in the place of their numbers."""
    return [
        (weight, [[plan.questions[house][number] for house, number in enumerate(asked)] for asked in asks])
        for weight, asks in plan.draws
    ]


def of_draws(plan, draws, house_count=None):
    """A plan of the sizes of this one."""
    return Plan.made(plan.p, plan.book_length, plan.book_count, house_count or plan.house_count, draws)


def mixture(one, other, first=1, second=1):
    """Sometimes the one plan, sometimes the other: right and hidden if both are."""
    draws = [(weight * first * other.weight, asks) for weight, asks in draws_of(one)]
    return of_draws(one, draws + [(weight * second * one.weight, asks) for weight, asks in draws_of(other)])


def each_question(plan, change):
    """The plan with change(question) in the place of each question."""
    return of_draws(plan, [
        (weight, [[change(question) for question in asked] for asked in asks]) for weight, asks in draws_of(plan)
    ])


def with_idle_house(plan):
    """The plan with one more house, which is asked nothing."""
    draws = [(weight, [[*asked, ()] for asked in asks]) for weight, asks in draws_of(plan)]
    return of_draws(plan, draws, plan.house_count + 1)


def unlike_ranks():
    """A plan whose houses together are asked rows of greater rank, on the mean, for wish 0 than for wish 1."""
    one, two = ((1, 0),), ((0, 1),)
    draws = []
    for _, (first, second) in sums_draws(2, 2, 2):
        # House 2 is asked either letter alike often, for wish 0 whatever house 0 is asked, for wish 1 by what it is.
        last = one if first[0] and first[0][0][0] else two
        draws += [(1, ((*first, one), (*second, last))), (1, ((*first, two), (*second, last)))]
    return Plan.made(2, 1, 2, 3, draws)


def wasting_plans():
    """Linear plans that are right and hidden from one house at least, and waste in one way or another."""
    least, sums = least_sample(2, 3, 2), sums_sample(2, 3, 2)
    return [
        each_question(least, lambda question: question * 2), each_question(sums, lambda question: (*question, (0, 0))),
        each_question(least_sample(3, 2, 3), lambda question: question or ((0,) * 3,)),
        mixture(least, whole_sample(2, 3, 2, 2, 1)), mixture(least, whole_sample(2, 3, 2, 2, 0), 5, 2),
        mixture(sums, whole_sample(2, 3, 2, 1, 2), 1, 10 ** 60), sums, sums_sample(3, 3, 2), with_idle_house(least),
        with_idle_house(sums_sample(2, 2, 3)), points_sample(5, 3), points_sample(5, 4), whole_sample(3, 2, 2, 1, 0),
        whole_sample(2, 4, 3, 1, 3), unlike_ranks(),
    ]


def least_plans():
    """Linear plans that are least."""
    return [
        least_sample(2, 2, 1), least_sample(2, 3, 1), least_sample(2, 2, 2), least_sample(3, 2, 2),
        least_sample(2, 3, 2), least_sample(5, 3, 2), least_sample(2, 2, 3), least_sample(3, 3, 3),
        least_sample(2, 2, 4), least_sample(2, 4, 2), least_sample(7, 2, 2, 2), least_sample(2, 3, 2, 2),
        least_sample(2, 2, 3, 3), sums_sample(2, 2, 3), whole_sample(2, 1, 1, 2, 0),
    ]


def changed_draws(plan, kind):
    """Plans of this kind that differ from the plan in one question number, and so may be right or not."""
    rng = random.Random(17)
    found = []
    for _ in range(4):
        draws = [[weight, [list(asked) for asked in asks]] for weight, asks in plan.draws]
        house = rng.randrange(plan.house_count)
        asked = draws[rng.randrange(len(draws))][1][rng.randrange(plan.book_count)]
        asked[house] = rng.randrange(len(plan.questions[house]))
        found.append(kind(plan.p, plan.book_length, plan.book_count, plan.questions, draws))
    return found


def changed_questions(plan):
    """Linear plans that differ from the plan in one question of one house."""
    rng = random.Random(18)
    columns = plan.book_count * plan.book_length
    found = []
    for _ in range(4):
        house = rng.randrange(plan.house_count)
        question = rng.randrange(len(plan.questions[house]))
        other = random_matrix(rng, plan.p, rng.randint(0, 2), columns)
        draws = [
            (weight, [
                [
                    other if (at, number) == (house, question) else plan.questions[at][number]
                    for at, number in enumerate(asked)
                ]
                for asked in asks
            ])
            for weight, asks in plan.draws
        ]
        found.append(Plan.made(plan.p, plan.book_length, plan.book_count, plan.house_count, draws))
    return found


def linear_answer(p, question, letters):
    """The answer by the words of the document."""
    return tuple(sum(a * b for a, b in zip(row, letters)) % p for row in question)


def answers_by_hand(plan, asked, library):
    """The answers of all houses, without the plan's own methods."""
    place = 0
    for letter in library.letters:
        place = place * plan.p + letter
    return tuple(
        linear_answer(plan.p, plan.questions[house][number], library.letters) if isinstance(plan, Plan)
        else plan.questions[house][number][1][place]
        for house, number in enumerate(asked)
    )


def rank_by_basis(p, rows):
    """The rank, by a basis that grows row by row."""
    basis = {}
    for row in rows:
        rest = list(row)
        for at in range(len(rest)):
            if rest[at] % p == 0:
                continue
            if at not in basis:
                basis[at] = rest
                break
            factor = rest[at] * pow(basis[at][at], -1, p)
            rest = [(a - factor * b) % p for a, b in zip(rest, basis[at])]
    return len(basis)


def mean_rank_by_hand(plan, wish, known, lots):
    """The mean over lots and weights of the rank besides known, as a fraction."""
    kept = [
        book * plan.book_length + at for book in range(plan.book_count) if book not in known
        for at in range(plan.book_length)
    ]
    total = 0
    for lot in lots:
        for weight, asks in plan.draws:
            rows = [row for house in lot for row in plan.questions[house][asks[wish][house]]]
            total += weight * rank_by_basis(plan.p, [[row[column] for column in kept] for row in rows])
    return Fraction(total, plan.weight * len(lots))


def lots_by_hand(plan, together):
    return list(itertools.combinations(range(plan.house_count), together))


def wastes_by_hand(plan, order, together):
    """The wastes by the words of the document, as fractions."""
    everyone, lots = [range(plan.house_count)], lots_by_hand(plan, together)
    vain = spent_by_hand(plan, order[0]) - mean_rank_by_hand(plan, order[0], (), everyone)
    beyond, twice = [], []
    for k in range(plan.book_count - 1):
        known = order[:k + 1]
        beyond.append(
            mean_rank_by_hand(plan, order[k], known, everyone) - mean_rank_by_hand(plan, order[k], known, lots)
        )
        apart = mean_rank_by_hand(plan, order[k + 1], known, lots)
        joint = mean_rank_by_hand(plan, order[k + 1], known, everyone)
        twice.append(Fraction(plan.house_count, together) * apart - joint)
    return vain, beyond, twice


def spent_by_hand(plan, wish):
    """The mean number of letters, as a fraction."""
    total = 0
    for weight, asks in plan.draws:
        for house, number in enumerate(asks[wish]):
            question = plan.questions[house][number]
            total += weight * (len(question) if isinstance(plan, Plan) else question[0])
    return Fraction(total, plan.weight)


def is_fraction(share, fraction):
    """Whether share is a Share, and this fraction."""
    return type(share) is Share and (share.top, share.bottom) == (fraction.numerator, fraction.denominator)


def judged_plans():
    """Linear plans and plans of tables, right and not, with at most 64 libraries."""
    linear = [plan for plan in right_plans() if plan.p ** (plan.book_count * plan.book_length) <= 64]
    found = list(linear) + [Plan(*parts) for parts in few_parts()]
    for plan in linear:
        found += changed_draws(plan, Plan) + changed_questions(plan)
    for plan in right_tables():
        found += [plan] + changed_draws(plan, TablePlan)
    return found + [TablePlan(*parts) for parts in table_parts()]


def groups_of_answers(plan, wish, draw, lot=None):
    """For each row of answers (of the lot) the books wish of all libraries that give it."""
    asked = plan.draws[draw][1][wish]
    groups = {}
    for library in every_library(plan.p, plan.book_count, plan.book_length):
        answers = answers_by_hand(plan, asked, library)
        seen = answers if lot is None else tuple(answers[house] for house in lot)
        groups.setdefault(seen, set()).add(library.books[wish])
    return groups
