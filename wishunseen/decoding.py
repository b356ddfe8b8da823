"""Polynomials by their values, of which some may be wrong."""

from wishunseen.errors import Undefined
from wishunseen.fields import check_field
from wishunseen.matrices import sum_to


def polynomial_through(p, points, values):
    """The coefficients of the polynomial of least degree with these values at these points."""
    check_field(p)
    return sum_to(p, _power_rows(p, points, len(points)), values)


def value_at(p, coefficients, point):
    """The value at a point of the polynomial with these coefficients."""
    check_field(p)
    value = 0
    for coefficient in coefficients[::-1]:
        value = (value * point + coefficient) % p
    return value


def polynomial_near(p, points, values, size, wrong):
    """The so many coefficients of the polynomial that has all but at most so many wrong of these values."""
    check_field(p)
    # Let fault be 0 at the wrong points, and begin with 1. Then fault times the polynomial sought is, at each point,
    # fault times the value there. These equations are linear, and all that solves them is such a pair.
    rows = _power_rows(p, points, size + wrong)
    faults = [_less_times(p, powers, values) for powers in _power_rows(p, points, wrong + 1)]
    try:
        solved = sum_to(p, (*rows, *faults[:-1]), tuple([-letter % p for letter in faults[-1]]))
    except Undefined:
        raise Undefined("polynomial") from None
    found = _quotient(p, solved[:size + wrong], (*solved[size + wrong:], 1))
    # If there is no such polynomial, what is found has too many wrong values.
    if len(places_unlike(p, points, values, found)) > wrong:
        raise Undefined("polynomial")
    return found


def places_unlike(p, points, values, coefficients):
    """The places of the points at which the polynomial has another value."""
    pairs = list(zip(points, values))
    return [at for at, (point, value) in enumerate(pairs) if value_at(p, coefficients, point) != value]


def _power_rows(p, points, count):
    """So many rows: the powers of the points, from 0 on."""
    rows = []
    powers = [1] * len(points)
    for _ in range(count):
        rows.append(tuple(powers))
        powers = [power * point % p for power, point in zip(powers, points)]
    return tuple(rows)


def _less_times(p, powers, values):
    return tuple([-power * value % p for power, value in zip(powers, values)])


def _quotient(p, coefficients, divisor):
    """What the polynomial is divided by one that begins with 1, whatever is left."""
    rest = list(coefficients)
    found = []
    while len(rest) >= len(divisor):
        lead = rest[-1]
        found.append(lead)
        at = len(rest) - len(divisor)
        taken = [(letter - lead * other) % p for letter, other in zip(rest[at:], divisor)]
        # The last letter has become 0.
        rest = [*rest[:at], *taken[:-1]]
    return tuple(found[::-1])
