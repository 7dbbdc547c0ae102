"""Numbers of a prime: point 6 and the heading lettermend/numbers.py."""

import itertools
import unittest

from lettermend.errors import InvalidNumber, InvalidPrime, InvalidRow, InvalidRows
from lettermend.numbers import inverse, one_answer, powers, rank_of
from tests.support import ODD, PRIMES, Told, rows_like, span_of, sum_by

NO_PRIMES = (-11, 0, 1, 2, 3, 5, 7, 9, 10, 12, 15, 21, 25, 33, 49, 77, 91, 95, 96, 98, 99, 101, 103, 10 ** 30)
ROWS = ((1, 2, 3), (0, 5, 10))


class Inverse(Told):

    def test_all(self):
        for prime in PRIMES:
            for number in range(1, prime):
                found = inverse(prime, number)
                self.assertTrue(0 < found < prime)
                self.assertEqual(found * number % prime, 1)
                self.assertEqual(inverse(prime, found), number)

    def test_edges(self):
        self.assertEqual([inverse(11, 1), inverse(11, 10), inverse(97, 1), inverse(97, 96)], [1, 10, 1, 96])
        self.assertEqual(self.by_name(inverse, prime=11, number=4), 3)

    def test_wrong(self):
        for value in ODD + NO_PRIMES:
            self.given(InvalidPrime, value, inverse, value, 4)
        for prime, least in ((11, 11), (97, 97)):
            for value in ODD + (0, -1, least, least + 1, 10 ** 30):
                self.given(InvalidNumber, value, inverse, prime, value)
        self.in_order(inverse, (("prime", 11, 12, InvalidPrime, "given"), ("number", 4, 0, InvalidNumber, "given")))


class Powers(Told):

    def test_all(self):
        for prime in PRIMES:
            for number in range(prime):
                for many in (1, 2, 12):
                    self.assertEqual(powers(prime, number, many),
                                     tuple(pow(number, exponent, prime) for exponent in range(many)))

    def test_edges(self):
        self.assertEqual(powers(11, 0, 1), (1,))
        self.assertEqual(powers(11, 0, 3), (1, 0, 0))
        self.assertEqual(powers(97, 96, 12), (1, 96) * 6)
        self.assertEqual([len(powers(13, 2, many)) for many in range(1, 13)], list(range(1, 13)))
        self.assertEqual(self.by_name(powers, prime=11, number=3, many=4), (1, 3, 9, 5))

    def test_free(self):
        for prime in (11, 13):
            for numbers in itertools.combinations(range(prime), 4):
                self.assertEqual(rank_of(prime, tuple(powers(prime, number, 4) for number in numbers)), 4)
        for prime in (13, 97):
            self.assertEqual(rank_of(prime, tuple(powers(prime, number, 12) for number in range(1, 13))), 12)

    def test_wrong(self):
        for value in ODD + NO_PRIMES:
            self.given(InvalidPrime, value, powers, value, 3, 4)
        for value in ODD + (-1, 11, 97, 10 ** 30):
            self.given(InvalidNumber, value, powers, 11, value, 4)
        for value in ODD + (-1, 0, 13, 10 ** 30):
            self.given(InvalidNumber, value, powers, 11, 3, value)
        self.in_order(powers, (("prime", 11, 9, InvalidPrime, "given"), ("number", 3, 11, InvalidNumber, "given"),
                               ("many", 4, 13, InvalidNumber, "given")))


class Rank(Told):

    def test_by_all_sums(self):
        for seed in range(60):
            width, many = seed % 2 + 2, seed % 4 + 1
            rows = tuple(rows_like(11, width, seed * 10 + at) for at in range(many))
            if seed % 3 == 0:
                rows += (tuple((2 * one + 5 * other) % 11 for one, other in zip(rows[0], rows[-1])),)
            self.assertEqual(11 ** rank_of(11, rows), len(span_of(11, rows, width)))

    def test_edges(self):
        unit = tuple(tuple(int(row == place) for place in range(12)) for row in range(12))
        self.assertEqual(rank_of(97, unit), 12)
        self.assertEqual(rank_of(97, tuple(reversed(unit))), 12)
        self.assertEqual(rank_of(97, unit * 3 + unit[:4]), 12)
        self.assertEqual([rank_of(11, ((0,),)), rank_of(11, ((10,),)), rank_of(11, ((0,) * 12,) * 40)], [0, 1, 0])
        self.assertEqual(rank_of(11, ((0, 0, 1), (0, 0, 5), (0, 2, 7))), 2)
        self.assertEqual(rank_of(11, tuple((at % 11, 1) for at in range(40))), 2)
        self.assertEqual(rank_of(11, ((10, 1), (1, 10))), 1)
        self.assertEqual(rank_of(13, ((10, 1), (1, 10))), 2)
        self.assertEqual(self.by_name(rank_of, prime=11, rows=((1, 2), (2, 4), (0, 0))), 1)

    def wrong_rows(self, function, *more):
        for value in ODD + (11, "ab", [(1, 2)], (), ((1, 2),) * 41):
            if isinstance(value, tuple) and 1 <= len(value) <= 40:
                continue
            self.index(InvalidRows, None, function, 11, value, *more)
        for row in ODD + (5, [1, 2, 3], (1, 2, 11), (1, -1, 2), (1, 2, True), (1, None, 2), ((1,), 2, 3), ("1", 2, 3)):
            for at in range(3):
                rows = ((1, 2, 3),) * at + (row,) + ((1, 2, 3),) * (2 - at)
                self.index(InvalidRows, at, function, 11, rows, *more)
                self.index(InvalidRows, at, function, 11, rows + (None,), *more)

    def test_wrong(self):
        for value in ODD + NO_PRIMES:
            self.given(InvalidPrime, value, rank_of, value, ROWS)
        self.wrong_rows(rank_of)
        for rows, at in ((((),), 0), (((1,) * 13,), 0), (((1, 2), (1, 2, 3)), 1), (((1, 2), (1,)), 1),
                         (((1, 2), ()), 1), (((1, 2), (3, 4), (1, 2, 3), (5,)), 2), (((1,),) * 39 + ((1, 1),), 39),
                         (((1,) * 12,) * 39 + ((11,) * 12,), 39), (((11,), (1, 2)), 0)):
            self.index(InvalidRows, at, rank_of, 11, rows)
        self.assertEqual(rank_of(13, ((11,), (12,))), 1)
        self.in_order(rank_of, (("prime", 11, None, InvalidPrime, "given"),
                                ("rows", ROWS, ((1, 2), (1, 11)), InvalidRows, 1)))


class OneAnswer(Told):

    def test_by_all_rows(self):
        for seed in range(80):
            width, many = seed % 2 + 1, seed % 4 + 1
            rows = tuple(rows_like(11, width, seed * 10 + at) for at in range(many))
            if seed % 5 == 0:
                rows += ((0,) * width,)
            right = rows_like(11, len(rows), seed + 500)
            if seed % 2:
                right = tuple(sum_by(11, row, (3, 9, 1)[:width]) for row in rows)
            fit = [answer for answer in itertools.product(range(11), repeat=width)
                   if tuple(sum_by(11, row, answer) for row in rows) == right]
            self.assertEqual(one_answer(11, rows, right), fit[0] if len(fit) == 1 else None)

    def test_edges(self):
        vandermonde = tuple(powers(97, number, 12) for number in range(1, 41))
        answer = rows_like(97, 12, 5)
        right = tuple(sum_by(97, row, answer) for row in vandermonde)
        self.assertEqual(one_answer(97, vandermonde, right), answer)
        self.assertEqual(one_answer(97, vandermonde[:12], right[:12]), answer)
        self.assertIsNone(one_answer(97, vandermonde[:11], right[:11]))
        for at in (0, 12, 39):
            spoilt = right[:at] + ((right[at] + 1) % 97,) + right[at + 1:]
            self.assertIsNone(one_answer(97, vandermonde, spoilt))
        self.assertEqual(one_answer(11, ((4,),), (1,)), (3,))
        self.assertIsNone(one_answer(11, ((0,),), (0,)))
        self.assertEqual(one_answer(11, ((0, 1), (1, 0)), (7, 10)), (10, 7))
        self.assertEqual(self.by_name(one_answer, prime=11, rows=((1, 1), (1, 2)), right=(1, 4)), (9, 3))

    def test_wrong(self):
        for value in ODD + NO_PRIMES:
            self.given(InvalidPrime, value, one_answer, value, ROWS, (1, 2))
        Rank.wrong_rows(self, one_answer, (1, 2, 3))
        for value in ODD + (3, (), (1,), (1, 2, 3), [1, 2], "ab"):
            self.index(InvalidRow, None, one_answer, 11, ROWS, value)
        for value in ODD + (-1, 11, 10 ** 30):
            self.index(InvalidRow, 0, one_answer, 11, ROWS, (value, value))
            self.index(InvalidRow, 1, one_answer, 11, ROWS, (10, value))
        self.in_order(one_answer, (("prime", 11, 15, InvalidPrime, "given"),
                                   ("rows", ROWS, [(1, 2)], InvalidRows, None),
                                   ("right", (1, 2), (1, 2, 3), InvalidRow, None)))


if __name__ == "__main__":
    unittest.main()
