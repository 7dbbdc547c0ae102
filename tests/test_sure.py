"""Wrong ones found: point 10 and the heading lettermend/sure.py."""

import itertools
import unittest

from lettermend.codes import letter, pieces_of, read_from
from lettermend.errors import (InvalidLetters, InvalidNumber, InvalidPieces, InvalidScheme, InvalidShelf,
                               InvalidShelves)
from lettermend.schemes import line_of, points_of, room_of, size_of
from lettermend.sure import mend_sure, read_sure
from tests.support import ODD, Told, all_schemes, rows_like, sum_by

FEW, FIVE = (11, "letters", 4, 2, 2), (11, "letters", 5, 2, 2)
WRONG_SCHEMES = ODD + (FEW[:4], list(FEW), (13, "room", 4, 3, 4))
SCHEMES = tuple(all_schemes((13,), 7)) + ((11, "letters", 10, 1, 1), (11, "letters", 10, 1, 2),
                                          (23, "room", 10, 2, 2), (97, "letters", 9, 5, 5),
                                          (23, "room", 10, 4, 6), (23, "letters", 10, 2, 3))


def spoilt_row(prime, row, seed):
    """Another row of as many numbers."""
    other = rows_like(prime, len(row), seed)
    return other if other != row else ((row[0] + 1) % prime,) + row[1:]


def with_wrong(prime, rows, wrong, seed):
    """The rows with other ones at the indexes `wrong`."""
    return tuple(spoilt_row(prime, row, seed + at) if at in wrong else row for at, row in enumerate(rows))


def lots_for(many, size):
    """Some lots of so many of the first whole numbers."""
    lots = list(itertools.combinations(range(many), size))
    return lots[::max(1, len(lots) // 6)]


def zeros_at(prime, points):
    """The powers' numbers of the polynomial that is 0 at just these points."""
    row = [1]
    for point in points:
        row = [(low - point * high) % prime for low, high in zip([0] + row, row + [0])]
    return row


def unseen_by(scheme, shelves):
    """A message other than noughts whose pieces on these K - 1 shelves are noughts."""
    prime, way, _, parts, helpers = scheme
    points = [points_of(scheme)[shelf] for shelf in shelves]
    if way == "letters":
        row = zeros_at(prime, points)
        table = [[row[i] * row[j] % prime if j < parts else 0 for j in range(helpers)] for i in range(parts)]
        return tuple(number for i in range(parts) for number in table[i][i:])
    row, end = zeros_at(prime, points[1:]), pow(points[0], parts - 1, prime)
    lower = [row[i] * row[j] % prime for i in range(parts - 1) for j in range(i, parts - 1)]
    return tuple(-end * number % prime for number in lower) + tuple(lower)


class ReadSure(Told):

    def test_told_with_none_to_all_wrong(self):
        for scheme in SCHEMES:
            prime, _, many, parts, _ = scheme
            for wrong in range((many - parts) // 2 + 1 if parts < many else 0):
                if wrong > 4:
                    continue
                message = rows_like(prime, size_of(scheme), wrong + 3)
                pieces = pieces_of(scheme, message)
                for size in {parts + 2 * wrong, many}:
                    shelves = tuple(range(many - size, many))
                    for spoilt in range(wrong + 1):
                        for lot in lots_for(size, spoilt):
                            lying = with_wrong(prime, [pieces[shelf] for shelf in shelves], lot, 100)
                            self.assertEqual(read_sure(scheme, wrong, shelves, lying),
                                             (message, tuple(shelves[at] for at in lot)))

    def test_one_wrong_more_with_one_shelf_more(self):
        tried = 0
        for scheme in SCHEMES:
            prime, _, many, parts, _ = scheme
            for wrong in range(min(4, (many - parts - 1) // 2) + 1):
                size = parts + 2 * wrong + 1
                if size > many:
                    continue
                pieces = pieces_of(scheme, rows_like(prime, size_of(scheme), wrong))[:size]
                for lot in lots_for(size, wrong + 1):
                    lying = with_wrong(prime, pieces, lot, 200)
                    self.assertIsNone(read_sure(scheme, wrong, tuple(range(size)), lying))
                    tried += 1
        self.assertGreater(tried, 100)

    def test_two_messages_that_agree_on_too_few(self):
        for scheme in ((11, "letters", 6, 2, 2), (13, "letters", 7, 3, 4), (11, "letters", 5, 1, 2),
                       (11, "room", 7, 2, 2), (23, "room", 8, 4, 6), (23, "letters", 10, 4, 5)):
            prime, _, many, parts, _ = scheme
            wrong = (many - parts) // 2
            shelves = tuple(range(parts + 2 * wrong))
            one = rows_like(prime, size_of(scheme), 8)
            other = tuple((a + b) % prime for a, b in zip(one, unseen_by(scheme, range(parts - 1))))
            ours, theirs = pieces_of(scheme, one), pieces_of(scheme, other)
            self.assertNotEqual(one, other)
            self.assertEqual(ours[:parts - 1], theirs[:parts - 1])
            middle = parts - 1 + wrong
            lying = ours[:middle] + theirs[middle:middle + wrong] + ours[middle + wrong:len(shelves)]
            self.assertEqual(read_sure(scheme, wrong, shelves, lying), (one, shelves[middle:-1]))
            lying = lying[:-1] + theirs[len(shelves) - 1:len(shelves)]
            self.assertEqual(read_sure(scheme, wrong, shelves, lying), (other, shelves[parts - 1:middle]))

    def test_by_all_messages(self):
        scheme = (11, "letters", 4, 2, 2)
        all_pieces = {message: pieces_of(scheme, message) for message in itertools.product(range(11), repeat=3)}
        for seed in range(60):
            lying = tuple(rows_like(11, 2, seed * 4 + at) for at in range(4))
            if seed % 2:
                lying = pieces_of(scheme, rows_like(11, 3, seed))[:seed % 4] + lying[seed % 4:]
            fit = [message for message, pieces in all_pieces.items()
                   if sum([one != other for one, other in zip(pieces, lying)]) <= 1]
            found = read_sure(scheme, 1, (0, 1, 2, 3), lying)
            self.assertEqual(found and found[0], fit[0] if fit else None)
            self.assertLessEqual(len(fit), 1)

    def test_none_wrong_is_plain_reading(self):
        for seed in range(30):
            lying = tuple(rows_like(11, 2, seed * 2 + at) for at in range(2))
            plain = read_from(FEW, (1, 2), lying)
            self.assertEqual(read_sure(FEW, 0, (1, 2), lying), None if plain is None else (plain, ()))
        self.assertEqual(self.by_name(read_sure, scheme=FEW, wrong=1, shelves=(0, 1, 2, 3),
                                      pieces=((3, 5), (5, 9), (7, 0), (9, 3))), ((1, 2, 3), (1,)))

    def test_wrong(self):
        pieces = ((3, 5), (5, 8), (7, 0), (9, 3))
        for value in WRONG_SCHEMES:
            self.given(InvalidScheme, value, read_sure, value, 1, (0, 1, 2, 3), pieces)
        for value in ODD + (-1, 5, 10 ** 30):
            self.given(InvalidNumber, value, read_sure, FEW, value, (0, 1, 2, 3), pieces)
        for value in ODD + ((), (0, 1, 2), [0, 1, 2, 3], "abcd"):
            self.index(InvalidShelves, None, read_sure, FEW, 1, value, pieces)
        for wrong, shelves, at in ((0, (0,), None), (2, (0, 1, 2, 3), None), (4, (0, 1, 2, 3), None),
                                   (2, (0, 1, 2, 3, 4), None), (2, (0, 1, 2, 3, 4, 5), 4), (1, (0, 1, 2, 3, 4), 4),
                                   (1, (0, 1, 1, 3), 2), (1, (0, 3, 2, 1), 2), (0, (0, 1, 2) + (3,) * 8, 4)):
            self.index(InvalidShelves, at, read_sure, FEW, wrong, shelves, pieces)
        for value in ODD + (-1, 4):
            self.index(InvalidShelves, 0, read_sure, FEW, 1, (value,) * 4, pieces)
            self.index(InvalidShelves, 2, read_sure, FEW, 1, (0, 1, value, 3), pieces)
        for value in ODD + ((), pieces[:3], pieces * 2, list(pieces)):
            self.index(InvalidPieces, None, read_sure, FEW, 1, (0, 1, 2, 3), value)
        for value in ODD + ((), (5,), (5, 8, 0), [5, 8], (5, 11), (True, 5), ((5, 8),)):
            for at in range(4):
                lying = pieces[:at] + (value,) * (4 - at)
                self.index(InvalidPieces, at, read_sure, FEW, 1, (0, 1, 2, 3), lying)
        self.in_order(read_sure, (("scheme", FEW, None, InvalidScheme, "given"),
                                  ("wrong", 1, 5, InvalidNumber, "given"),
                                  ("shelves", (0, 1, 2, 3), (0, 1, 2, 2), InvalidShelves, 3),
                                  ("pieces", pieces, (pieces[0],), InvalidPieces, None)))


class MendSure(Told):

    def test_told_with_none_to_all_wrong(self):
        tried = 0
        for scheme in SCHEMES:
            prime, _, many, _, helpers = scheme
            for wrong in range(min(4, (many - 1 - helpers) // 2) + 1):
                message = rows_like(prime, size_of(scheme), wrong + 3)
                pieces = pieces_of(scheme, message)
                for lost in {0, many // 2, many - 1}:
                    others = tuple(shelf for shelf in range(many) if shelf != lost)
                    for size in {helpers + 2 * wrong, many - 1}:
                        givers = others[-size:]
                        letters = tuple(letter(scheme, pieces[giver], lost) for giver in givers)
                        for lot in [lot for spoilt in range(wrong + 1) for lot in lots_for(size, spoilt)]:
                            sent = tuple((number + at + 1) % prime if at in lot else number
                                         for at, number in enumerate(letters))
                            self.assertEqual(mend_sure(scheme, wrong, lost, givers, sent),
                                             (pieces[lost], tuple(givers[at] for at in lot)))
                            tried += 1
        self.assertGreater(tried, 500)

    def test_one_wrong_more_with_one_giver_more(self):
        tried = 0
        for scheme in SCHEMES:
            prime, _, many, _, helpers = scheme
            for wrong in range(5):
                size = helpers + 2 * wrong + 1
                if size > many - 1:
                    continue
                givers = tuple(range(1, size + 1))
                pieces = pieces_of(scheme, rows_like(prime, size_of(scheme), wrong))
                letters = [letter(scheme, pieces[giver], 0) for giver in givers]
                for lot in lots_for(size, wrong + 1):
                    sent = tuple((number + 3) % prime if at in lot else number for at, number in enumerate(letters))
                    self.assertIsNone(mend_sure(scheme, wrong, 0, givers, sent))
                    tried += 1
        self.assertGreater(tried, 100)

    def test_among_all_rows(self):
        # (0, 0, 1, 0): the row of noughts fits all but one, though no message asks for its letters alone.
        rows = list(itertools.product(range(11), repeat=2))
        for seed in range(60):
            sent = rows_like(11, 4, seed)
            if seed % 2:
                sent = tuple(sum_by(11, line_of(FIVE, giver), sent[:2]) for giver in range(3)) + sent[3:]
            fit = [row for row in rows
                   if sum([sum_by(11, line_of(FIVE, giver), row) != sent[giver] for giver in range(4)]) <= 1]
            found = mend_sure(FIVE, 1, 4, (0, 1, 2, 3), sent)
            self.assertEqual(found and found[0], fit[0] if fit else None)
        tight = (11, "room", 5, 3, 4)
        for seed in range(20):
            sent = rows_like(11, 4, seed)
            piece, unlike = mend_sure(tight, 0, 2, (0, 1, 3, 4), sent)
            self.assertEqual((len(piece), unlike), (room_of(tight), ()))
        self.assertEqual(self.by_name(mend_sure, scheme=FIVE, wrong=1, lost=4, givers=(0, 1, 2, 3),
                                      letters=(0, 0, 1, 0)), ((0, 0), (2,)))

    def test_wrong(self):
        right = (FIVE, 1, 4, (0, 1, 2, 3), (0, 0, 1, 0))
        for value in WRONG_SCHEMES:
            self.given(InvalidScheme, value, mend_sure, value, *right[1:])
        for value in ODD + (-1, 5, 10 ** 30):
            self.given(InvalidNumber, value, mend_sure, FIVE, value, *right[2:])
        for value in ODD + (-1, 5, 10 ** 30):
            self.given(InvalidShelf, value, mend_sure, FIVE, 1, value, *right[3:])
        for value in ODD + ((), (0, 1, 2), [0, 1, 2, 3], "abcd"):
            self.index(InvalidShelves, None, mend_sure, FIVE, 1, 4, value, right[4])
        for wrong, lost, givers, at in ((0, 4, (0,), None), (2, 4, (0, 1, 2, 3, 4), None), (1, 4, (0, 1, 2, 4), 3),
                                        (1, 0, (0, 1, 2, 3), 0), (1, 2, (0, 1, 2, 3), 2), (1, 2, (0, 1, 3, 5), 3),
                                        (1, 4, (0, 0, 2, 3), 1), (0, 4, (0, 1, 2, 3, 4), 4), (1, 3, (2, 1, 3, 9), 1)):
            self.index(InvalidShelves, at, mend_sure, FIVE, wrong, lost, givers, right[4])
        wide = (11, "letters", 6, 2, 4)
        for wrong, givers in ((0, (0, 1)), (0, (0, 1, 2)), (1, (0, 1, 2, 3, 4))):
            self.index(InvalidShelves, None, mend_sure, wide, wrong, 5, givers, (0,) * len(givers))
        for value in ODD + (-1, 5):
            self.index(InvalidShelves, 1, mend_sure, FIVE, 1, 4, (0, value, 2, 3), right[4])
        for value in ODD + ((), (0, 0, 1), (0, 0, 1, 0, 0), [0, 0, 1, 0], "abcd"):
            self.index(InvalidLetters, None, mend_sure, *right[:4], value)
        for value in ODD + (-1, 11, (0,)):
            for at in range(4):
                self.index(InvalidLetters, at, mend_sure, *right[:4], (0,) * at + (value,) * (4 - at))
        self.in_order(mend_sure, (("scheme", FIVE, (), InvalidScheme, "given"),
                                  ("wrong", 1, None, InvalidNumber, "given"),
                                  ("lost", 4, 5, InvalidShelf, "given"),
                                  ("givers", (0, 1, 2, 3), (0, 1, 2, 5), InvalidShelves, 3),
                                  ("letters", right[4], (0,), InvalidLetters, None)))


if __name__ == "__main__":
    unittest.main()
