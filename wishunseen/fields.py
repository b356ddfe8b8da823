"""Fields: the primes that letters are reckoned by."""

from wishunseen.errors import InvalidNumber, Undefined
from wishunseen.kinds import is_below, is_integer

PRIMES = (2, 3, 5, 7, 11, 13, 17, 19, 23, 29, 31)


def is_field(p):
    """Whether p is a prime number from 2 to 31."""
    return is_integer(p) and p in PRIMES


def check_field(p):
    """Raise InvalidNumber(p) unless p is a field."""
    if not is_field(p):
        raise InvalidNumber(p)


def inverse_of(p, a):
    """The letter that, times the letter a, is 1 modulo p."""
    check_field(p)
    if not is_below(a, p):
        raise InvalidNumber(a)
    if a == 0:
        raise Undefined("inverse")
    return [b for b in range(1, p) if a * b % p == 1][0]
