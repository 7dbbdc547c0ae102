"""Messages, tables, pieces and letters: points 8 and 9 and the heading lettermend/codes.py."""

import itertools
import unittest

from lettermend.codes import letter, mended, pieces_of, read_from, table_of
from lettermend.errors import (InvalidLetters, InvalidMessage, InvalidPiece, InvalidPieces, InvalidScheme,
                               InvalidShelf, InvalidShelves)
from lettermend.schemes import line_of, room_of, short_line, size_of
from tests.support import ODD, Told, all_schemes, rows_like, slow_rank, sum_by

FEW, TIGHT = (11, "letters", 4, 2, 2), (11, "room", 5, 3, 4)
WIDE = (13, "letters", 6, 2, 4)
SCHEMES = tuple(all_schemes((11, 31), 6))
GREAT = ((97, "letters", 10, 9, 9), (97, "letters", 10, 1, 9), (11, "letters", 10, 4, 7), (23, "room", 10, 5, 8),
         (97, "room", 10, 2, 2), (31, "room", 8, 4, 6), (11, "letters", 2, 1, 1))
WRONG_SCHEMES = ODD + (FEW[:4], FEW + (2,), list(FEW), (13, "room", 4, 3, 4))


def table_by_words(scheme, message):
    """The table as point 8 tells it."""
    _, way, _, parts, helpers = scheme
    rest = list(message)
    if way == "letters":
        rows = [[0] * helpers for _ in range(helpers)]
        for i in range(parts):
            for j in range(i, helpers):
                rows[i][j] = rows[j][i] = rest.pop(0)
        return tuple(map(tuple, rows))
    rows = [[0] * (parts - 1) for _ in range(2 * parts - 2)]
    for top in (0, parts - 1):
        for i in range(parts - 1):
            for j in range(i, parts - 1):
                rows[top + i][j] = rows[top + j][i] = rest.pop(0)
    return tuple(map(tuple, rows))


def messages_for(scheme):
    """Some messages, the least and the greatest among them."""
    size = size_of(scheme)
    yield (0,) * size
    yield (scheme[0] - 1,) * size
    yield tuple(at % scheme[0] for at in range(1, size + 1))
    for seed in range(3):
        yield rows_like(scheme[0], size, seed + size)


def spread(lots):
    """All of fewer than 40 lots, else at least 20 of them from the first to the last."""
    lots = list(lots)
    return lots[::max(1, len(lots) // 20)]


class Tables(Told):

    def test_by_words(self):
        for scheme in SCHEMES + GREAT:
            for message in messages_for(scheme):
                table = table_by_words(scheme, message)
                self.assertEqual(table_of(scheme, message), table)
                pieces = tuple(tuple(sum_by(scheme[0], line_of(scheme, shelf), [row[place] for row in table])
                                     for place in range(room_of(scheme))) for shelf in range(scheme[2]))
                self.assertEqual(pieces_of(scheme, message), pieces)

    def test_by_hand(self):
        self.assertEqual(table_of(WIDE, (1, 2, 3, 4, 5, 6, 7)),
                         ((1, 2, 3, 4), (2, 5, 6, 7), (3, 6, 0, 0), (4, 7, 0, 0)))
        self.assertEqual(pieces_of(WIDE, (1, 2, 3, 4, 5, 6, 7))[0], (10, 7, 9, 11))
        self.assertEqual(self.by_name(table_of, scheme=FEW, message=(1, 2, 3)), ((1, 2), (2, 3)))
        self.assertEqual(self.by_name(pieces_of, scheme=FEW, message=(1, 2, 3)), ((3, 5), (5, 8), (7, 0), (9, 3)))

    def test_wrong(self):
        for function in (table_of, pieces_of):
            for value in WRONG_SCHEMES:
                self.given(InvalidScheme, value, function, value, (1, 2, 3))
            for value in ODD + (3, (), (1, 2), (1, 2, 3, 4), [1, 2, 3], "abc", ((1, 2, 3),)):
                self.index(InvalidMessage, None, function, FEW, value)
            for value in ODD + (-1, 11, 10 ** 30, (1,), (1, 2, 3)):
                for at in range(3):
                    message = (0,) * at + (value,) * (3 - at)
                    self.index(InvalidMessage, at, function, FEW, message)
            self.in_order(function, (("scheme", FEW, None, InvalidScheme, "given"),
                                     ("message", (1, 2, 3), (1, 2, 11), InvalidMessage, 2)))


class Reading(Told):

    def test_any_lot_tells_the_message(self):
        for scheme in SCHEMES + GREAT:
            for message in messages_for(scheme):
                pieces = pieces_of(scheme, message)
                for lot in spread(itertools.combinations(range(scheme[2]), scheme[3])):
                    self.assertEqual(read_from(scheme, lot, tuple(pieces[shelf] for shelf in lot)), message)

    def test_each_message_of_a_small_scheme(self):
        for scheme in (FEW, (11, "room", 4, 2, 2), (11, "letters", 3, 1, 2)):
            seen = {}
            for message in itertools.product(range(11), repeat=size_of(scheme)):
                pieces = pieces_of(scheme, message)
                for lot in itertools.combinations(range(scheme[2]), scheme[3]):
                    told = lot, tuple(pieces[shelf] for shelf in lot)
                    self.assertNotIn(told, seen)
                    seen[told] = message
            for (lot, told), message in list(seen.items())[::7]:
                self.assertEqual(read_from(scheme, lot, told), message)
            if scheme == FEW:
                for lot in ((0, 1), (1, 3)):
                    for rows in itertools.product(range(0, 11, 3), repeat=4):
                        told = (rows[:2], rows[2:])
                        self.assertEqual(read_from(scheme, lot, told), seen.get((lot, told)))

    def test_rows_that_no_message_has(self):
        for scheme in SCHEMES + GREAT:
            prime, _, many, parts, _ = scheme
            room = room_of(scheme)
            lot = tuple(range(many - parts, many))
            units = [tuple(int(at == place) for place in range(size_of(scheme))) for at in range(size_of(scheme))]
            columns = [sum([pieces_of(scheme, unit)[shelf] for shelf in lot], ()) for unit in units]
            for seed in range(6):
                pieces = [list(pieces_of(scheme, rows_like(prime, size_of(scheme), seed))[shelf]) for shelf in lot]
                pieces[seed % parts][seed * 5 % room] += 1
                pieces[seed % parts][seed * 5 % room] %= prime
                told = tuple(tuple(piece) for piece in pieces)
                found = read_from(scheme, lot, told)
                fits = slow_rank(prime, columns + [sum(told, ())]) == len(columns)
                self.assertEqual(found is not None, fits, (scheme, told))
                if found is not None:
                    self.assertEqual(tuple(pieces_of(scheme, found)[shelf] for shelf in lot), told)

    def test_none(self):
        self.assertIsNone(read_from(FEW, (0, 1), ((3, 5), (5, 9))))
        # Of "room" any rows are some message's.
        found = read_from(TIGHT, (0, 1, 2), ((1, 0), (0, 0), (0, 0)))
        self.assertEqual(pieces_of(TIGHT, found)[:3], ((1, 0), (0, 0), (0, 0)))
        self.assertIsNone(read_from(WIDE, (0, 5), ((1, 2, 3, 4), (5, 6, 7, 8))))
        self.assertEqual(read_from((11, "letters", 2, 1, 1), (1,), ((7,),)), (7,))
        self.assertEqual(self.by_name(read_from, scheme=FEW, shelves=(1, 3), pieces=((5, 8), (9, 3))), (1, 2, 3))

    def test_wrong(self):
        right = (FEW, (1, 3), ((5, 8), (9, 3)))
        for value in WRONG_SCHEMES:
            self.given(InvalidScheme, value, read_from, value, *right[1:])
        for value in ODD + ((), (0,), (0, 1, 2), [0, 1], "ab", 1, ((0, 1),)):
            self.index(InvalidShelves, None, read_from, FEW, value, right[2])
        for value in ODD + (-1, 4, 10 ** 30):
            self.index(InvalidShelves, 0, read_from, FEW, (value, value), right[2])
            self.index(InvalidShelves, 1, read_from, FEW, (0, value), right[2])
        for value in ((0, 0), (3, 0), (2, 1)):
            self.index(InvalidShelves, 1, read_from, FEW, value, right[2])
        for value in ODD + ((), ((5, 8),), ((5, 8),) * 3, [(5, 8), (9, 3)], "ab"):
            self.index(InvalidPieces, None, read_from, FEW, (1, 3), value)
        for value in ODD + (5, (), (5,), (5, 8, 0), [5, 8], (5, 11), (-1, 5), (5, True), ((5, 8), 5)):
            self.index(InvalidPieces, 0, read_from, FEW, (1, 3), (value, value))
            self.index(InvalidPieces, 1, read_from, FEW, (1, 3), ((5, 8), value))
        self.in_order(read_from, (("scheme", FEW, (11,), InvalidScheme, "given"),
                                  ("shelves", (1, 3), (1, 1), InvalidShelves, 1),
                                  ("pieces", right[2], ((5, 8), (9, 11)), InvalidPieces, 1)))


class Letters(Told):

    def test_any_givers_mend(self):
        for scheme in SCHEMES + GREAT:
            message = rows_like(scheme[0], size_of(scheme), 77)
            pieces = pieces_of(scheme, message)
            for lost in range(scheme[2]):
                others = [shelf for shelf in range(scheme[2]) if shelf != lost]
                letters = {shelf: letter(scheme, pieces[shelf], lost) for shelf in others}
                for shelf in others:
                    self.assertEqual(letters[shelf], sum_by(scheme[0], pieces[shelf], short_line(scheme, lost)))
                for givers in spread(itertools.combinations(others, scheme[4])):
                    sent = tuple(letters[giver] for giver in givers)
                    self.assertEqual(mended(scheme, lost, givers, sent), pieces[lost])

    def test_a_piece_of_its_own_and_any_letters(self):
        self.assertEqual(letter(FEW, (1, 10), 0), 0)
        self.assertEqual(letter(FEW, (3, 5), 0), 8)
        found = {mended(FEW, 3, (0, 1), sent) for sent in itertools.product(range(11), repeat=2)}
        self.assertEqual(len(found), 121)
        for sent in itertools.product(range(11), repeat=2):
            row = mended(FEW, 3, (0, 1), sent)
            self.assertEqual(tuple(sum_by(11, line_of(FEW, giver), row) for giver in (0, 1)), sent)
        self.assertEqual(self.by_name(letter, scheme=FEW, piece=(3, 5), lost=3), 1)
        self.assertEqual(self.by_name(mended, scheme=FEW, lost=3, givers=(0, 1), letters=(1, 4)), (9, 3))

    def test_wrong_letter(self):
        for value in WRONG_SCHEMES:
            self.given(InvalidScheme, value, letter, value, (3, 5), 3)
        for value in ODD + (3, (), (3,), (3, 5, 0), [3, 5], (3, 11), (-1, 5), (3, True), ((3, 5),), "ab"):
            self.given(InvalidPiece, value, letter, FEW, value, 3)
        for value in ODD + (-1, 4, 10 ** 30):
            self.given(InvalidShelf, value, letter, FEW, (3, 5), value)
        self.in_order(letter, (("scheme", FEW, None, InvalidScheme, "given"),
                               ("piece", (3, 5), (3, 5, 7), InvalidPiece, "given"),
                               ("lost", 3, 4, InvalidShelf, "given")))

    def test_wrong_mended(self):
        for value in WRONG_SCHEMES:
            self.given(InvalidScheme, value, mended, value, 3, (0, 1), (1, 4))
        for value in ODD + (-1, 4, 10 ** 30):
            self.given(InvalidShelf, value, mended, FEW, value, (0, 1), (1, 4))
        for value in ODD + ((), (0,), (0, 1, 2), [0, 1], "ab"):
            self.index(InvalidShelves, None, mended, FEW, 3, value, (1, 4))
        for value in ODD + (-1, 4, 3, 10 ** 30):
            self.index(InvalidShelves, 0, mended, FEW, 3, (value, value), (1, 4))
            self.index(InvalidShelves, 1, mended, FEW, 3, (0, value), (1, 4))
        for lost, value, at in ((3, (1, 1), 1), (3, (2, 1), 1), (0, (0, 1), 0), (1, (0, 1), 1), (2, (3, 2), 1)):
            self.index(InvalidShelves, at, mended, FEW, lost, value, (1, 4))
        for value in ODD + ((), (1,), (1, 4, 0), [1, 4], "ab", 1):
            self.index(InvalidLetters, None, mended, FEW, 3, (0, 1), value)
        for value in ODD + (-1, 11, 10 ** 30, (1, 4)):
            self.index(InvalidLetters, 0, mended, FEW, 3, (0, 1), (value, value))
            self.index(InvalidLetters, 1, mended, FEW, 3, (0, 1), (1, value))
        self.in_order(mended, (("scheme", FEW, FEW + (1,), InvalidScheme, "given"),
                               ("lost", 3, True, InvalidShelf, "given"),
                               ("givers", (0, 1), (0, 3), InvalidShelves, 1),
                               ("letters", (1, 4), (1,), InvalidLetters, None)))


if __name__ == "__main__":
    unittest.main()
