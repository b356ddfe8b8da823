"""What the tests of points share."""

import random

from wishunseen.libraries import Library
from wishunseen.points import PointPlan

# p, houses, books, together, silent, lying
SIZES = (
    (3, 2, 1, 1, 0, 0), (3, 2, 2, 1, 0, 0), (3, 2, 5, 1, 0, 0), (5, 3, 2, 1, 0, 0), (5, 3, 2, 2, 0, 0),
    (5, 4, 1, 1, 0, 1), (5, 4, 2, 1, 1, 0), (5, 4, 2, 1, 2, 0), (7, 4, 1, 3, 0, 0), (7, 5, 2, 1, 0, 1),
    (7, 6, 1, 2, 1, 1), (7, 6, 2, 1, 1, 1), (11, 8, 3, 2, 1, 2), (11, 10, 1, 1, 2, 3), (11, 10, 2, 2, 3, 2),
    (13, 10, 4, 5, 0, 1), (13, 10, 8, 1, 1, 1), (17, 10, 3, 2, 0, 3), (23, 9, 1, 3, 1, 1), (31, 10, 2, 1, 0, 4),
    (31, 10, 2, 6, 0, 0), (31, 10, 1, 1, 8, 0), (31, 2, 8, 1, 0, 0),
)


def all_points():
    return [PointPlan(*sizes) for sizes in SIZES]


def random_tape(rng, points):
    return tuple(rng.randrange(points.p) for _ in range(points.tape_length))


def random_library(rng, points):
    return Library(points.p, [
        [rng.randrange(points.p) for _ in range(points.book_length)] for _ in range(points.book_count)
    ])


def asks_by_hand(points, wish, tape):
    """The rows of all houses by the words of the document."""
    together, length = points.together, points.book_length
    rows = []
    for house in range(points.house_count):
        row = []
        for k in range(points.book_count):
            for letter in range(length):
                at = (k * length + letter) * together
                total = sum(tape[at + i] * (house + 1) ** i for i in range(together))
                row.append((total + (k == wish) * (house + 1) ** (together + letter)) % points.p)
        rows.append(tuple(row))
    return tuple(rows)


def letters_by_hand(points, wish, tape, library, common=()):
    """What all houses answer, veiled by common letters."""
    return [
        (
            sum(a * b for a, b in zip(row, library.letters))
            + sum(letter * (house + 1) ** i for i, letter in enumerate(common))
        ) % points.p
        for house, row in enumerate(asks_by_hand(points, wish, tape))
    ]


def spoilt(rng, points, letters, silent, lying):
    """The letters with so many houses silent and so many of the others lying, and the lying ones."""
    houses = rng.sample(range(points.house_count), silent + lying)
    told = list(letters)
    for house in houses[:silent]:
        told[house] = None
    for house in houses[silent:]:
        told[house] = (told[house] + rng.randrange(1, points.p)) % points.p
    return told, tuple(sorted(houses[silent:]))


def drawn(seed):
    """A plan by points, a wish, a tape and a library of it, for each of the sizes, several times."""
    rng = random.Random(seed)
    found = []
    for points in all_points() * 3:
        found.append((points, rng.randrange(points.book_count), random_tape(rng, points), random_library(rng, points)))
    return rng, found
