"""Told stores: points 11 and 12 and the heading lettermend/told.py."""

import itertools
import unittest

from lettermend.bound import most_numbers
from lettermend.codes import letter, pieces_of
from lettermend.errors import InvalidNumber, InvalidScheme, InvalidShelf, InvalidShelves, InvalidTold, TooWide
from lettermend.schemes import room_of, size_of
from lettermend.told import blind, does_mend, does_read, is_right, is_told, told_of, unmended
from tests.support import ODD, Told, all_schemes, rows_like, sum_by

TWICE = (11, 1, (((1,),),) * 3, (((), ((1,),), ((1,),)), (((1,),), (), ((1,),)), (((1,),), ((1,),), ())))
HALF = (11, 2, (((1, 0),), ((0, 1),), ((1, 1),)), TWICE[3])
WRONG_TOLD = ODD + (11, (), HALF[:3], HALF + (1,), list(HALF), (HALF,), (12,) + HALF[1:])


def store_of(seed, size, many, room, height, prime=11):
    """A told store with tables that look mixed, some of them noughts."""
    def table(at, rows, width):
        at += seed * 1000
        return tuple(rows_like(prime, width, at * 10 + row) if at % 5 else (0,) * width for row in range(rows))
    pieces = tuple(table(shelf, room, size) for shelf in range(many))
    mixes = tuple(tuple(table(20 + giver * many + lost, height, room) if giver != lost else ()
                        for lost in range(many)) for giver in range(many))
    return prime, size, pieces, mixes


def piece_at(told, shelf, message):
    """The piece of a message there, by the words of point 11."""
    return tuple(sum_by(told[0], row, message) for row in told[2][shelf])


def letters_at(told, giver, lost, message):
    """The letters that the giver sends for the lost one, by the words of point 11."""
    return tuple(sum_by(told[0], row, piece_at(told, giver, message)) for row in told[3][giver][lost])


def all_lots(indexes):
    """All lots of these."""
    return [lot for size in range(len(indexes) + 1) for lot in itertools.combinations(indexes, size)]


STORES = tuple(store_of(seed, *form) for seed, form in enumerate((
    (2, 2, 1, 1), (2, 3, 1, 1), (2, 3, 2, 1), (1, 4, 1, 2), (2, 4, 1, 1), (2, 2, 3, 2), (1, 3, 2, 2), (2, 3, 1, 3),
    (2, 4, 2, 1), (2, 3, 2, 2)))) + (TWICE, HALF)


class IsTold(Told):

    def test_right_ones(self):
        for told in STORES + (store_of(1, 12, 6, 6, 6), store_of(2, 1, 2, 1, 1), store_of(3, 12, 2, 6, 1, 97),
                              store_of(4, 1, 6, 1, 6, 97)):
            self.assertIs(is_told(told), True)

    def test_limits(self):
        for told in (store_of(1, 13, 3, 1, 1), store_of(1, 0, 3, 1, 1), store_of(1, 2, 1, 1, 1),
                     store_of(1, 2, 7, 1, 1), store_of(1, 2, 3, 7, 1), store_of(1, 2, 3, 0, 1),
                     store_of(1, 2, 3, 1, 7), store_of(1, 2, 3, 1, 0)):
            self.assertIs(is_told(told), False)

    def test_any_value(self):
        for value in WRONG_TOLD:
            self.assertIs(is_told(value), False)
        for at in range(4):
            for value in ODD + (-1, 0, 3, 12, 10 ** 30, (), HALF[2][:2], HALF[3][:2], HALF[2] + HALF[2][:1]):
                self.assertIs(is_told(HALF[:at] + (value,) + HALF[at + 1:]), False)
        self.assertIs(self.by_name(is_told, value=HALF), True)

    def test_each_table_and_row_and_number(self):
        def put(value, path, thing):
            if not path:
                return thing
            return value[:path[0]] + (put(value[path[0]], path[1:], thing),) + value[path[0] + 1:]
        wide = store_of(7, 3, 3, 2, 2)
        tables = [(2, shelf) for shelf in range(3)]
        tables += [(3, giver, lost) for giver in range(3) for lost in range(3) if giver != lost]
        for path in tables:
            for value in ODD + ((), ((0, 0, 0),), ((0, 0),), ((0, 0, 0),) * 3, ((0, 0),) * 3, ((0,) * 4,) * 2):
                self.assertIs(is_told(put(wide, path, value)), False, (path, value))
            for row in range(2):
                for value in ODD + ((), (0,), (0, 0, 0, 0), [0, 0], [0, 0, 0], ((0, 0, 0),)):
                    self.assertIs(is_told(put(wide, path + (row,), value)), False, (path, value))
                for value in ODD + (-1, 11, 10 ** 30, (0,)):
                    self.assertIs(is_told(put(wide, path + (row, 1), value)), False, (path, value))
                self.assertIs(is_told(put(wide, path + (row, 1), 10)), True)
        for giver in range(3):
            for value in ODD + (((0, 0), (0, 0)), ((0, 0),), [()]):
                self.assertIs(is_told(put(wide, (3, giver, giver), value)), False)
            for value in ODD + (wide[3][giver][:2], wide[3][giver] + ((),), list(wide[3][giver])):
                self.assertIs(is_told(put(wide, (3, giver), value)), False)


class Reads(Told):

    def test_by_all_messages(self):
        seen = []
        for told in STORES:
            prime, size, pieces, _ = told
            for lot in all_lots(range(len(pieces))):
                unseen = [message for message in itertools.product(range(prime), repeat=size) if any(message)
                          and not any(any(piece_at(told, shelf, message)) for shelf in lot)]
                self.assertIs(does_read(told, lot), not unseen)
                found = blind(told, lot)
                if unseen:
                    self.assertIn(found, unseen)
                else:
                    self.assertIsNone(found)
                seen.append(not unseen)
        self.assertEqual(set(seen), {True, False})

    def test_edges(self):
        for told in STORES + (store_of(1, 12, 6, 6, 6),):
            self.assertIs(does_read(told, ()), False)
            self.assertEqual(len(blind(told, ())), told[1])
            self.assertTrue(any(blind(told, ())))
        self.assertIs(does_read(TWICE, (0, 1, 2)), True)
        self.assertIsNone(blind(TWICE, (0, 1, 2)))
        noughts = (11, 2, (((0, 0),),) * 3, TWICE[3])
        self.assertIs(does_read(noughts, (0, 1, 2)), False)
        self.assertTrue(any(blind(noughts, (0, 1, 2))))
        wide = store_of(1, 12, 6, 6, 6)
        self.assertIs(does_read(wide, (0, 1)), False)
        self.assertIs(does_read(wide, (1, 2)), True)
        self.assertIs(self.by_name(does_read, told=HALF, lot=(0, 2)), True)
        self.assertEqual(self.by_name(blind, told=HALF, lot=(0,))[0], 0)

    def test_wrong(self):
        for function in (does_read, blind):
            for value in WRONG_TOLD:
                self.given(InvalidTold, value, function, value, (0,))
            for value in ODD + (0, [0], "a", {0: 1}):
                if not isinstance(value, tuple):
                    self.index(InvalidShelves, None, function, HALF, value)
            for value in ODD + (-1, 3, 10 ** 30, (0,)):
                self.index(InvalidShelves, 0, function, HALF, (value, value))
                self.index(InvalidShelves, 1, function, HALF, (1, value))
                self.index(InvalidShelves, 2, function, HALF, (0, 1, value, 2))
            for value, at in (((0, 0), 1), ((2, 1), 1), ((0, 2, 1), 2), ((0, 1, 2, 3), 3)):
                self.index(InvalidShelves, at, function, HALF, value)
            self.in_order(function, (("told", HALF, HALF[:2], InvalidTold, "given"),
                                     ("lot", (0, 1), (1, 0), InvalidShelves, 1)))


class Mends(Told):

    def test_by_all_messages(self):
        seen = []
        for told in STORES:
            prime, size, pieces, _ = told
            messages = list(itertools.product(range(prime), repeat=size))
            for lost in range(len(pieces)):
                others = [shelf for shelf in range(len(pieces)) if shelf != lost]
                for givers in all_lots(others):
                    shown = [message for message in messages if any(piece_at(told, lost, message))
                             and not any(any(letters_at(told, giver, lost, message)) for giver in givers)]
                    self.assertIs(does_mend(told, lost, givers), not shown)
                    found = unmended(told, lost, givers)
                    if shown:
                        self.assertIn(found, shown)
                    else:
                        self.assertIsNone(found)
                    seen.append(not shown)
        self.assertEqual(set(seen), {True, False})

    def test_edges(self):
        self.assertIs(does_mend(TWICE, 0, ()), False)
        self.assertEqual(any(unmended(TWICE, 0, ())), True)
        noughts = (11, 2, (((0, 0),), ((1, 0),), ((0, 1),)), TWICE[3])
        self.assertIs(does_mend(noughts, 0, ()), True)
        self.assertIsNone(unmended(noughts, 0, ()))
        self.assertIs(does_mend(noughts, 1, (0, 2)), False)
        self.assertIs(self.by_name(does_mend, told=HALF, lost=2, givers=(0, 1)), True)
        self.assertEqual(self.by_name(unmended, told=HALF, lost=2, givers=(0,))[0], 0)

    def test_wrong(self):
        for function in (does_mend, unmended):
            for value in WRONG_TOLD:
                self.given(InvalidTold, value, function, value, 2, (0, 1))
            for value in ODD + (-1, 3, 10 ** 30):
                self.given(InvalidShelf, value, function, HALF, value, (0, 1))
            for value in ODD + (0, [0], "a"):
                if not isinstance(value, tuple):
                    self.index(InvalidShelves, None, function, HALF, 2, value)
            for value in ODD + (-1, 3, 2, 10 ** 30, (0,)):
                self.index(InvalidShelves, 0, function, HALF, 2, (value, value))
                self.index(InvalidShelves, 1, function, HALF, 2, (0, value))
            for lost, value, at in ((2, (0, 0), 1), (2, (1, 0), 1), (0, (0, 1), 0), (1, (0, 1, 2), 1)):
                self.index(InvalidShelves, at, function, HALF, lost, value)
            self.in_order(function, (("told", HALF, None, InvalidTold, "given"),
                                     ("lost", 2, 3, InvalidShelf, "given"),
                                     ("givers", (0, 1), (0, 2), InvalidShelves, 1)))


class Right(Told):

    def test_by_words(self):
        seen = []
        for told in STORES:
            many = len(told[2])
            for parts in range(1, many + 1):
                for helpers in range(1, many):
                    reads = all(does_read(told, lot) for lot in itertools.combinations(range(many), parts))
                    mends = all(does_mend(told, lost, givers) for lost in range(many) for givers in
                                itertools.combinations([one for one in range(many) if one != lost], helpers))
                    self.assertIs(is_right(told, parts, helpers), reads and mends)
                    seen.append((reads, mends))
                    if reads and mends and parts <= helpers:
                        most = most_numbers(parts, helpers, len(told[2][0]), len(told[3][0][1]))
                        self.assertLessEqual(told[1], most)
        self.assertEqual(set(seen), {(True, True), (True, False), (False, True), (False, False)})

    def test_told_schemes(self):
        tried = 0
        for scheme in all_schemes((11, 13, 97), 6):
            prime, _, many, parts, helpers = scheme
            if size_of(scheme) > 12:
                self.tells(TooWide, (), told_of, scheme)
                continue
            told = self.by_name(told_of, scheme=scheme)
            self.assertIs(is_told(told), True)
            self.assertEqual((told[0], told[1], len(told[2]), len(told[2][0])),
                             (prime, size_of(scheme), many, room_of(scheme)))
            message = rows_like(prime, size_of(scheme), 4)
            pieces = pieces_of(scheme, message)
            for shelf in range(many):
                self.assertEqual(piece_at(told, shelf, message), pieces[shelf])
                for lost in range(many):
                    expected = () if lost == shelf else (letter(scheme, pieces[shelf], lost),)
                    self.assertEqual(letters_at(told, shelf, lost, message), expected)
            self.assertIs(is_right(told, parts, helpers), True)
            if parts > 1:
                self.assertIs(is_right(told, parts - 1, helpers), False)
            if helpers > parts:
                self.assertIs(is_right(told, parts, helpers - 1), False)
            tried += 1
        self.assertGreater(tried, 80)

    def test_width(self):
        self.assertEqual(told_of((11, "letters", 6, 3, 5))[1], 12)
        self.assertEqual(told_of((11, "letters", 6, 1, 5))[1], 5)
        self.assertEqual(told_of((13, "room", 6, 3, 4))[1], 6)
        for scheme in ((11, "letters", 6, 4, 5), (11, "letters", 6, 5, 5), (11, "letters", 7, 1, 1),
                       (11, "letters", 7, 1, 6), (11, "letters", 10, 9, 9), (23, "room", 7, 4, 6),
                       (11, "room", 7, 2, 2)):
            self.tells(TooWide, (), told_of, scheme)
        for value in ODD + ((11,), (13, "room", 4, 3, 4), (11, "letters", 11, 2, 2)):
            self.given(InvalidScheme, value, told_of, value)

    def test_wrong(self):
        for value in WRONG_TOLD:
            self.given(InvalidTold, value, is_right, value, 2, 2)
        for value in ODD + (-1, 0, 4, 10 ** 30):
            self.given(InvalidNumber, value, is_right, HALF, value, 2)
        for value in ODD + (-1, 0, 3, 10 ** 30):
            self.given(InvalidNumber, value, is_right, HALF, 2, value)
        self.assertIs(is_right(HALF, 3, 1), False)
        self.assertIs(is_right(TWICE, 1, 1), True)
        self.assertIs(self.by_name(is_right, told=HALF, parts=2, helpers=2), True)
        self.in_order(is_right, (("told", HALF, list(HALF), InvalidTold, "given"),
                                 ("parts", 2, [4], InvalidNumber, "given"),
                                 ("helpers", 2, (3,), InvalidNumber, "given")))


if __name__ == "__main__":
    unittest.main()
