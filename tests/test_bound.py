"""No letter less: points 12 and 13 and the heading lettermend/bound.py."""

import unittest

from lettermend.bound import least_letters, least_room, most_numbers
from lettermend.errors import InvalidNumber
from lettermend.schemes import room_of, size_of
from tests.support import ODD, PRIMES, Told, all_schemes

PAIRS = tuple((parts, helpers) for parts in range(1, 13) for helpers in range(parts, 13))


def sum_of(parts, helpers, room, letters):
    """The sum of point 12."""
    total = 0
    for ahead in range(parts):
        total += room if room < (helpers - ahead) * letters else (helpers - ahead) * letters
    return total


class Bound(Told):

    def test_most(self):
        for parts, helpers in PAIRS:
            for room in (1, 2, 3, 5, 12, 13, 100, 1000):
                for letters in (1, 2, 3, 7, 84, 1000):
                    self.assertEqual(most_numbers(parts, helpers, room, letters),
                                     sum_of(parts, helpers, room, letters))
        self.assertEqual([most_numbers(1, 1, 1, 1), most_numbers(12, 12, 1000, 1000), most_numbers(12, 12, 1000, 1)],
                         [1, 12000, 78])
        self.assertEqual(self.by_name(most_numbers, parts=3, helpers=4, room=2, letters=1), 6)

    def test_least_room(self):
        for parts, helpers in PAIRS:
            for letters in (1, 2, 90):
                for size in (1, 2, 3, 11, 12, 13, 78, 79, 144, 156, 157, 999, 1000):
                    found = least_room(size, parts, helpers, letters)
                    if found is None:
                        self.assertLess(sum_of(parts, helpers, 10 ** 6, letters), size)
                        continue
                    self.assertGreaterEqual(sum_of(parts, helpers, found, letters), size)
                    self.assertTrue(found == 1 or sum_of(parts, helpers, found - 1, letters) < size)
        self.assertEqual([least_room(1000, 1, 1, 1000), least_room(1000, 1, 1, 999), least_room(78, 12, 12, 1),
                          least_room(79, 12, 12, 1), least_room(1000, 12, 12, 1000), least_room(1, 1, 12, 1)],
                         [1000, None, 12, None, 84, 1])
        self.assertEqual(self.by_name(least_room, size=3, parts=2, helpers=2, letters=1), 2)

    def test_least_letters(self):
        for parts, helpers in PAIRS:
            for room in (1, 2, 90, 1000):
                for size in (1, 2, 3, 11, 12, 13, 78, 79, 144, 999, 1000):
                    found = least_letters(size, parts, helpers, room)
                    if found is None:
                        self.assertLess(parts * room, size)
                        continue
                    self.assertGreaterEqual(sum_of(parts, helpers, room, found), size)
                    self.assertTrue(found == 1 or sum_of(parts, helpers, room, found - 1) < size)
        self.assertEqual([least_letters(1000, 1, 1, 1000), least_letters(1000, 1, 1, 999),
                          least_letters(24, 12, 12, 2), least_letters(25, 12, 12, 2), least_letters(1, 1, 1, 1)],
                         [1000, None, 2, None, 1])
        self.assertEqual(self.by_name(least_letters, size=6, parts=3, helpers=4, room=2), 1)

    def test_both_ways_reach_it(self):
        for scheme in all_schemes(PRIMES, 10):
            _, way, _, parts, helpers = scheme
            size, room = size_of(scheme), room_of(scheme)
            if way == "letters":
                self.assertEqual(most_numbers(parts, helpers, room, 1), size)
            else:
                self.assertEqual((parts * room, helpers - parts + 1), (size, room))
            self.assertEqual(least_letters(size, parts, helpers, room), 1)
            self.assertEqual(least_room(size, parts, helpers, 1), room)

    def test_wrong_numbers(self):
        for value in ODD + (-1, 0, 13, 10 ** 30):
            self.given(InvalidNumber, value, most_numbers, value, 12, 1, 1)
            self.given(InvalidNumber, value, least_room, 1, value, 12, 1)
            self.given(InvalidNumber, value, least_letters, 1, value, 12, 1)
        for value in ODD + (-1, 0, 3, 13, 10 ** 30):
            self.given(InvalidNumber, value, most_numbers, 4, value, 1, 1)
            self.given(InvalidNumber, value, least_room, 1, 4, value, 1)
            self.given(InvalidNumber, value, least_letters, 1, 4, value, 1)
        for value in ODD + (-1, 0, 1001, 10 ** 30):
            self.given(InvalidNumber, value, most_numbers, 2, 3, value, 1)
            self.given(InvalidNumber, value, most_numbers, 2, 3, 1, value)
            for function in (least_room, least_letters):
                self.given(InvalidNumber, value, function, value, 2, 3, 1)
                self.given(InvalidNumber, value, function, 1, 2, 3, value)

    def test_first_wrong_one(self):
        # Wrong values are unlike, so that `given` tells which argument was meant.
        wrong = {"size": [1001], "parts": [13], "helpers": [[14]], "room": (0,), "letters": [0]}
        right = {"size": 5, "parts": 2, "helpers": 3, "room": 4, "letters": 1}
        for function, names in ((most_numbers, ("parts", "helpers", "room", "letters")),
                                (least_room, ("size", "parts", "helpers", "letters")),
                                (least_letters, ("size", "parts", "helpers", "room"))):
            self.in_order(function, [(name, right[name], wrong[name], InvalidNumber, "given") for name in names])
        self.given(InvalidNumber, 13, most_numbers, 13, 12, 0, 0)


if __name__ == "__main__":
    unittest.main()
