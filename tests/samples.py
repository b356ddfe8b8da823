"""Values that the tests of several modules share."""

import itertools
import random

from wishunseen.editions import Shelf
from wishunseen.libraries import Library
from wishunseen.shares import Share

FIELDS = (2, 3, 5, 7, 11, 13, 17, 19, 23, 29, 31)

NO_INTEGERS = (
    True, False, None, "", "1", "two", "None", (), [], (1,), [1], (2, 3), [2, 3], ((1,),), ([1],), [[1]],
    Share(1), Share(2), Share(1, 2), Library(2, ((1,),)), Shelf(Library(2, ((1,),))), (None,), [True],
)

NO_FIELDS = NO_INTEGERS + tuple(n for n in range(-5, 60) if n not in FIELDS) + (
    -2, -3, -31, 10 ** 30, 10 ** 5000, -10 ** 5000, 2 ** 61 - 1, 37, 41, 127,
)

ANY_VALUES = NO_INTEGERS + (-1, 0, 1, 2, 3, 10 ** 40)


def nested(depth):
    value = 1
    for level in range(depth):
        value = (value,) if level % 2 else [value]
    return value


def random_matrix(rng, p, rows, columns):
    return tuple(tuple(rng.randrange(p) for _ in range(columns)) for _ in range(rows))


def dependent_matrix(rng, p, rows, columns, rank):
    """Rows that are sums of so many rows only."""
    base = random_matrix(rng, p, rank, columns)
    return tuple(
        combined(p, [rng.randrange(p) for _ in base], base, columns)
        for _ in range(rows)
    )


def combined(p, letters, rows, columns):
    return tuple(sum(a * row[c] for a, row in zip(letters, rows)) % p for c in range(columns))


def span(p, rows, columns):
    """All sums of rows times letters, found by trying each."""
    return {combined(p, letters, rows, columns) for letters in itertools.product(range(p), repeat=len(rows))}


def small_matrices():
    """Triples (p, columns, rows): every shape that the document names, small enough for span."""
    rng = random.Random(7)
    found = []
    for p in FIELDS:
        most = 5 if p == 2 else 4 if p == 3 else 3 if p <= 7 else 2
        for columns in range(5):
            for count in range(most + 1):
                found.append((p, columns, ((0,) * columns,) * count))
                for rank in range(count + 1):
                    found.append((p, columns, dependent_matrix(rng, p, count, columns, rank)))
                found.append((p, columns, random_matrix(rng, p, count, columns)))
    return found


def large_matrices():
    """Triples (p, columns, rows) up to the limits of the document, and a little beyond."""
    rng = random.Random(11)
    found = []
    for p in (2, 3, 31):
        for count, columns, rank in ((150, 32, 32), (150, 32, 9), (32, 32, 31), (150, 3, 2), (5, 32, 4), (155, 34, 33)):
            found.append((p, columns, dependent_matrix(rng, p, count, columns, rank)))
        found.append((p, 32, ((0,) * 32,) * 150))
        found.append((p, 0, ((),) * 150))
    return found
