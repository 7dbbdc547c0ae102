"""Numbers of a prime, their powers, and rows of them."""

from lettermend.checks import check_within, first_no_number, is_prime, is_tuple_of, is_tuple_within
from lettermend.errors import InvalidPrime, InvalidRow, InvalidRows
from lettermend.fields import inverse_of, powers_from, rank_among, reduced


def check_prime(prime):
    """InvalidPrime for what is no prime from 11 to 97."""
    if not is_prime(prime):
        raise InvalidPrime(prime)


def first_wrong_row(prime, rows):
    """The index of the first that is no row of 1 to 12 numbers, or of another length than the first one; None."""
    for index, row in enumerate(rows):
        if not is_tuple_within(row, 1, 12) or len(row) != len(rows[0]):
            return index
        if first_no_number(prime, row) is not None:
            return index
    return None


def check_rows(prime, rows):
    """InvalidRows for what is no tuple of 1 to 40 rows of one length."""
    if not is_tuple_within(rows, 1, 40):
        raise InvalidRows(None)
    index = first_wrong_row(prime, rows)
    if index is not None:
        raise InvalidRows(index)


def check_right(prime, rows, right):
    """InvalidRow for what is no tuple of one number for each of the rows."""
    if not is_tuple_of(right, len(rows)):
        raise InvalidRow(None)
    index = first_no_number(prime, right)
    if index is not None:
        raise InvalidRow(index)


def inverse(prime, number):
    """The number with which the product of `number` is 1."""
    check_prime(prime)
    check_within(number, 1, prime - 1)
    return inverse_of(prime, number)


def powers(prime, number, many):
    """The row 1, x, .. of so many powers of the number."""
    check_prime(prime)
    check_within(number, 0, prime - 1)
    check_within(many, 1, 12)
    return powers_from(prime, number, many)


def rank_of(prime, rows):
    """How many of the rows are free at most."""
    check_prime(prime)
    check_rows(prime, rows)
    return rank_among(prime, rows, len(rows[0]))


def one_answer(prime, rows, right):
    """The row with which the rows have these products, if there is just one; None."""
    check_prime(prime)
    check_rows(prime, rows)
    check_right(prime, rows, right)
    width = len(rows[0])
    led, _, left = reduced(prime, [[*row, number] for row, number in zip(rows, right)], width)
    if len(led) < width or any([row[width] for row in left]):
        return None
    return tuple([row[width] for row in led])
