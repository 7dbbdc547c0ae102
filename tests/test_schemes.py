"""Schemes: point 7 and the heading lettermend/schemes.py."""

import itertools
import unittest

from lettermend.errors import InvalidScheme, InvalidShelf
from lettermend.numbers import rank_of
from lettermend.schemes import is_scheme, line_of, points_of, room_of, short_line, size_of
from tests.support import ODD, PRIMES, Told, all_schemes

FEW, TIGHT = (11, "letters", 4, 2, 2), (11, "room", 5, 3, 4)
WRONG_SCHEMES = ODD + (11, (), FEW[:4], FEW + (2,), list(FEW), (FEW,), (list(FEW),), ("letters", 11, 4, 2, 2))


class IsScheme(Told):

    def test_all_numbers(self):
        primes = (-11, 0, 2, 7, 10, 11, 12, 13, 19, 23, 25, 31, 96, 97, 98, 101)
        right = set(all_schemes([prime for prime in primes if prime in PRIMES], 10))
        counts = range(-1, 12)
        for prime, way, many, parts, helpers in itertools.product(primes, ("letters", "room"), counts, counts, counts):
            value = prime, way, many, parts, helpers
            self.assertIs(is_scheme(value), value in right, value)

    def test_edges(self):
        for value in ((11, "letters", 2, 1, 1), (97, "letters", 10, 9, 9), (97, "letters", 10, 1, 9),
                      (11, "room", 3, 2, 2), (97, "room", 10, 2, 2), (23, "room", 10, 5, 8), (19, "room", 9, 5, 8),
                      (13, "room", 6, 3, 4)):
            self.assertIs(is_scheme(value), True, value)
        for value in ((11, "letters", 1, 1, 1), (97, "letters", 11, 2, 2), (11, "letters", 4, 0, 1),
                      (11, "letters", 4, 2, 1), (11, "letters", 4, 2, 4), (11, "room", 2, 2, 2),
                      (11, "room", 5, 1, 0), (11, "room", 6, 3, 5), (13, "room", 7, 4, 6), (11, "room", 6, 3, 4),
                      (19, "room", 10, 5, 8), (97, "room", 10, 6, 10)):
            self.assertIs(is_scheme(value), False, value)

    def test_any_value(self):
        for value in WRONG_SCHEMES + PRIMES:
            self.assertIs(is_scheme(value), False)
        for scheme in (FEW, TIGHT):
            for at in range(5):
                for value in ODD + (b"letters", ["letters"], "Letters", "letters ", 10 ** 300, -10 ** 300):
                    if not isinstance(value, str) or value != "letters":
                        spoilt = scheme[:at] + (value,) + scheme[at + 1:]
                        self.assertIs(is_scheme(spoilt), False, spoilt)
        self.assertIs(is_scheme(("letters",) * 5), False)
        self.assertIs(is_scheme((11, "letters", 2, True, 1)), False)
        self.assertIs(is_scheme((11, "letters", 2, 1, True)), False)
        self.assertIs(self.by_name(is_scheme, value=FEW), True)


class Told7(Told):

    def test_letters(self):
        for scheme in all_schemes((11, 97), 10):
            prime, way, many, parts, helpers = scheme
            if way == "letters":
                self.assertEqual(points_of(scheme), tuple(range(1, many + 1)))
                self.assertEqual(room_of(scheme), helpers)
                self.assertEqual(size_of(scheme), parts * (parts + 1) // 2 + parts * (helpers - parts))
                for shelf in range(many):
                    line = tuple(pow(shelf + 1, power, prime) for power in range(helpers))
                    self.assertEqual(line_of(scheme, shelf), line)
                    self.assertEqual(short_line(scheme, shelf), line)

    def test_room(self):
        for scheme in all_schemes(PRIMES, 10):
            prime, way, many, parts, helpers = scheme
            if way == "room":
                unlike = [number for number in range(1, prime) if pow(number, parts - 1, prime)
                          not in [pow(lesser, parts - 1, prime) for lesser in range(1, number)]]
                self.assertEqual(points_of(scheme), tuple(unlike[:many]))
                self.assertEqual(room_of(scheme), parts - 1)
                self.assertEqual(size_of(scheme), parts * (parts - 1))
                for shelf in range(many):
                    line = tuple(pow(unlike[shelf], power, prime) for power in range(helpers))
                    self.assertEqual(line_of(scheme, shelf), line)
                    self.assertEqual(short_line(scheme, shelf), line[:parts - 1])

    def test_points_left_out(self):
        self.assertEqual(points_of((13, "room", 6, 3, 4)), (1, 2, 3, 4, 5, 6))
        self.assertEqual(points_of((31, "room", 10, 4, 6)), (1, 2, 3, 4, 6, 8, 11, 12, 16, 17))

    def test_free(self):
        for scheme in all_schemes((11, 23), 7):
            lines = [line_of(scheme, shelf) for shelf in range(scheme[2])]
            shorts = [short_line(scheme, shelf) for shelf in range(scheme[2])]
            for lot in itertools.combinations(lines, scheme[4]):
                self.assertEqual(rank_of(scheme[0], lot), scheme[4])
            for lot in itertools.combinations(shorts, len(shorts[0])):
                self.assertEqual(rank_of(scheme[0], lot), len(shorts[0]))
            if scheme[1] == "room":
                ends = {pow(point, scheme[3] - 1, scheme[0]) for point in points_of(scheme)}
                self.assertEqual(len(ends), scheme[2])

    def test_by_name(self):
        self.assertEqual(self.by_name(points_of, scheme=TIGHT), (1, 2, 3, 4, 5))
        self.assertEqual(self.by_name(room_of, scheme=TIGHT), 2)
        self.assertEqual(self.by_name(size_of, scheme=TIGHT), 6)
        self.assertEqual(self.by_name(line_of, scheme=TIGHT, shelf=2), (1, 3, 9, 5))
        self.assertEqual(self.by_name(short_line, scheme=TIGHT, shelf=2), (1, 3))

    def test_wrong(self):
        for value in WRONG_SCHEMES + ((13, "room", 4, 3, 4), (11, "letters", 4, 3, 2), (12, "letters", 4, 2, 2)):
            for function in (points_of, room_of, size_of):
                self.given(InvalidScheme, value, function, value)
            for function in (line_of, short_line):
                self.given(InvalidScheme, value, function, value, 0)
        for function in (line_of, short_line):
            for scheme in (FEW, TIGHT):
                for value in ODD + (-1, scheme[2], 10 ** 30):
                    self.given(InvalidShelf, value, function, scheme, value)
            self.in_order(function, (("scheme", FEW, FEW[:4], InvalidScheme, "given"),
                                     ("shelf", 3, 4, InvalidShelf, "given")))


if __name__ == "__main__":
    unittest.main()
