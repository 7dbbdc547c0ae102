"""META and its packing: point 31 and the heading lettermend/packing.py."""

from lettermend.clustererrors import InvalidMeta, InvalidName, InvalidNumbers
from lettermend.errors import InvalidNumber
from lettermend.packing import (is_meta, packed, packed_name, packed_whole, unpacked, unpacked_name, unpacked_whole)
from tests.support import ODD, Told
from tests.test_placement import WRONG_LOTS
from tests.test_trees import words

OUTCOMES = ("done", "no room", "taken", "no such", "within", "too deep", "too many", "too few", "used", "unused")
MOST = 10 ** 9
EMPTY = ("room", ())
FILE = ("file", 9, (4, 17, MOST))
WIDE = tuple((name, ("file", 60, tuple(range(at * 60 + 1, at * 60 + 61)))) for at, name in enumerate(words(40)))
MARKS = tuple((client, (client * 37 + 1) ** 5 % MOST + 1, OUTCOMES[client]) for client in range(8))
METAS = (((0,), (), ()), (tuple(range(10)), (), ()), ((0, 1, 2, 3), (), ()), ((9,), ((7, MOST, "unused"),), ()),
         ((2, 9), ((5, 12, "taken"),), (("b", ("file", 3, (4,))),)), ((1, 3, 5), MARKS, (("a", EMPTY), ("b", FILE))),
         ((0, 9), tuple((client, 1, OUTCOMES[client + 2]) for client in range(8)),
          (("abcdefgh", ("room", (("a", ("room", (("z", ("file", 0, ())),))), ("b", FILE)))), ("c", EMPTY))),
         (tuple(range(10)), MARKS, WIDE), ((4,), (), tuple((name, EMPTY) for name in words(40))))
WRONG_NUMBERS = ((None, ODD + ((0,) * 30001, [], [1, 0], "10", {}, 5)),
                 (0, ((-1,), (97,), (True,), ("1",), (None,), (10 ** 30,), ((1, 0),), ([1],), (97, 0, -1))),
                 (2, ((1, 0, 97), (1, 0, True, 5), (0, 0, -1, -1))))


def deep_tree(deep, last):
    """A tree with rooms in rooms and the node `last`, `deep` names deep."""
    node = last
    for _ in range(deep):
        node = ("room", (("q", node),))
    return node[1]


METAS += tuple(((0,), (), deep_tree(deep, last)) for deep in range(1, 7) for last in (FILE, EMPTY))


def slow_whole(number):
    """The packing of a whole number by the words of point 31."""
    return (len(str(number)),) + tuple(int(digit) for digit in str(number))


def slow_row(values, pack):
    """The packing of a row of things by the words of point 31."""
    numbers = slow_whole(len(values))
    for value in values:
        numbers += pack(value)
    return numbers


def slow_node(pair):
    """The packing of a name and its node by the words of point 31."""
    name, node = pair
    numbers = (len(name),) + tuple("abcdefghijklmnopqrstuvwxyz".index(letter) + 1 for letter in name)
    if node[0] == "room":
        return numbers + (1,) + slow_row(node[1], slow_node)
    return numbers + (0,) + slow_whole(node[1]) + slow_row(node[2], slow_whole)


def slow_mark(mark):
    """The packing of a mark by the words of point 31."""
    return slow_whole(mark[0]) + slow_whole(mark[1]) + slow_whole(OUTCOMES.index(mark[2]))


def slow_meta(meta):
    """The packing of META by the words of point 31."""
    return slow_row(meta[0], slow_whole) + slow_row(meta[1], slow_mark) + slow_row(meta[2], slow_node)


class Wholes(Told):

    def test_packed_and_back(self):
        for number in tuple(range(1200)) + tuple(10 ** at + more for at in range(2, 9) for more in (-1, 0, 1)) + (
                MOST - 1, MOST, 123456789, 987654321):
            row = slow_whole(number)
            self.assertEqual(packed_whole(number), row)
            for behind in ((), (0,), (9, 9, 9), (96,) * 5, row):
                self.assertEqual(unpacked_whole(row + behind), (number, len(row)))
            for many in range(len(row)):
                self.assertIsNone(unpacked_whole(row[:many]))
        self.assertEqual(self.by_name(packed_whole, number=507), (3, 5, 0, 7))
        self.assertEqual(self.by_name(unpacked_whole, numbers=(3, 5, 0, 7, 9)), (507, 4))

    def test_no_packing(self):
        for row in ((), (0,), (0, 1), (0, 0), (1,), (2, 0, 7), (2, 0, 0), (2, 1), (1, 10), (1, 96), (2, 1, 10),
                    (2, 10, 1),
                    (3, 0, 0, 1), (10,) + (1, 0, 0, 0, 0, 0, 0, 0, 0, 1), (10,) + (9,) * 10, (10,) + (2,) + (0,) * 9,
                    (10, 1) + (0,) * 8, (11, 1) + (0,) * 10, (11, 0, 1) + (0,) * 9, (96,) * 97, (10, 0) + (1,) * 9):
            self.assertIsNone(unpacked_whole(row), row)
        self.assertEqual(unpacked_whole((10, 1) + (0,) * 9 + (5,)), (MOST, 11))
        self.assertEqual(unpacked_whole((1, 0) + (96,) * 29998), (0, 2))

    def test_wrong(self):
        for value in ODD + (-1, MOST + 1, 10 ** 30):
            self.given(InvalidNumber, value, packed_whole, value)


class Names(Told):

    def test_packed_and_back(self):
        for name in ("a", "z", "cab", "abcdefgh", "zzzzzzzz", "letters", "q"):
            row = (len(name),) + tuple(ord(letter) - 96 for letter in name)
            self.assertEqual(packed_name(name), row)
            for behind in ((), (0,), (1, 1), (96,)):
                self.assertEqual(unpacked_name(row + behind), (name, len(row)))
            for many in range(len(row)):
                self.assertIsNone(unpacked_name(row[:many]))
        self.assertEqual(self.by_name(packed_name, name="cab"), (3, 3, 1, 2))
        self.assertEqual(self.by_name(unpacked_name, numbers=(1, 26, 1)), ("z", 2))

    def test_no_packing(self):
        for row in ((), (0,), (0, 1), (1,), (1, 0), (1, 27), (1, 96), (2, 1, 0), (2, 0, 1), (2, 1, 27), (8,) + (1,) * 7,
                    (9,) + (1,) * 9, (10, 1), (96,) + (1,) * 96, (3, 1, 2)):
            self.assertIsNone(unpacked_name(row), row)

    def test_wrong(self):
        for value in tuple(value for value in ODD if value.__class__ is not str) + (
                "", "11", "A", "a b", "abcdefghi", "a1", "\u00e4", ("a",), 5, b"a", "a" * 4000):
            self.given(InvalidName, value, packed_name, value)


class Metas(Told):

    def test_packed_and_back(self):
        for meta in METAS:
            self.assertIs(is_meta(meta), True)
            row = packed(meta)
            self.assertEqual(row, slow_meta(meta))
            self.assertIsInstance(row, tuple)
            self.assertLess(max(row), 31)
            self.assertLessEqual(len(row), 30000)
            self.assertEqual(unpacked(row), meta)
        self.assertEqual(self.by_name(packed, meta=((9,), (), ())), (1, 1, 1, 9, 1, 0, 1, 0))
        self.assertEqual(self.by_name(unpacked, numbers=(1, 1, 1, 9, 1, 0, 1, 0)), ((9,), (), ()))

    def test_just_all_of_the_numbers(self):
        for meta in METAS:
            row = packed(meta)
            for behind in ((0,), (1,), (0,) * 5, (96,), row, (1, 0)):
                self.assertIsNone(unpacked((row + behind)[:30000]))
            for many in range(0, len(row), 1 + len(row) // 100):
                self.assertIsNone(unpacked(row[:many]))
        self.assertIsNone(unpacked(()))

    def test_no_row_is_the_packing_of_two(self):
        seen = 0
        for meta in METAS:
            row = packed(meta)
            for at in range(0, len(row), 1 + len(row) ** 2 // 40000):
                for other in tuple(range(28)) + (31, 96):
                    if other == row[at]:
                        continue
                    spoilt = row[:at] + (other,) + row[at + 1:]
                    found = unpacked(spoilt)
                    if found is not None:
                        seen += 1
                        self.assertIs(is_meta(found), True)
                        self.assertEqual(slow_meta(found), spoilt)
        self.assertGreater(seen, 500)

    def test_rows_that_are_no_packing(self):
        one = (1, 1, 1, 0)
        none = (1, 0)
        self.assertEqual(unpacked(one + none + none), ((0,), (), ()))
        for row in ((1, 0) + none + none, (1, 2, 1, 1, 1, 0) + none + none, (1, 2, 1, 0, 1, 0) + none + none,
                    (1, 1, 2, 1, 0) + none + none, (2, 1, 1) + (1, 0) * 11 + none + none, (2, 0, 1, 1, 0) + none + none,
                    (1, 1, 2, 0, 1) + none + none, one + none + (2, 0, 0), one + (2, 0, 0) + none,
                    one + (1, 1, 1, 8, 1, 1, 1, 0) + none, one + (1, 1, 1, 0, 1, 0, 1, 0) + none,
                    one + (1, 1, 1, 0, 1, 1, 2, 1, 0) + none, one + (1, 2) + (1, 0, 1, 1, 1, 0) * 2 + none,
                    one + (1, 2) + (1, 1, 1, 1, 1, 0) + (1, 0, 1, 1, 1, 0) + none,
                    one + (1, 9) + (1, 0, 1, 1, 1, 0) * 9 + none, one + none + (1, 1, 0, 1),
                    one + none + (1, 1, 1, 1, 2),
                    one + none + (1, 1, 1, 1, 2, 1, 0), one + none + (1, 1, 1, 27, 1, 1, 0),
                    one + none + (1, 1, 9) + (1,) * 9 + (1, 1, 0), one + none + (1, 2, 1, 2, 1, 1, 0, 1, 1, 1, 1, 0),
                    one + none + (1, 2, 1, 1, 1, 1, 0, 1, 1, 1, 1, 0), one + none + (1, 1, 1, 1, 0, 1, 0, 1, 1, 1, 1),
                    one + none + (1, 1, 1, 1, 0, 1, 1, 1, 0), one + none + (1, 1, 1, 1, 0, 1, 1, 1, 2, 1, 1, 1, 2),
                    one + none + (1, 1, 1, 1, 0, 1, 2, 1, 2, 1, 2, 1, 1),
                    one + none + (1, 1, 1, 1, 0, 1, 1, 1, 1, 1, 0),
                    one + none + (1, 1, 1, 1, 0, 2, 6, 1, 1, 1, 1, 1), one + none + (10, 1) + (0,) * 9,
                    one + (10, 1) + (0,) * 9 + none, (10, 1) + (0,) * 9, one + none + (2, 4, 1) + (1, 1, 1, 1, 0) * 41):
            self.assertIsNone(unpacked(row), row)

    def test_far_too_many_and_too_deep(self):
        start = (1, 1, 1, 0, 1, 0)
        self.assertIsNone(unpacked(start + (1, 1, 1, 1, 1) * 5998))
        self.assertIsNone(unpacked((0,) * 30000))
        self.assertIsNone(unpacked((1,) * 30000))
        for deep in range(1, 10):
            row = start + (1, 1, 1, 17, 1) * deep + (1, 0)
            self.assertEqual(unpacked(row), ((0,), (), deep_tree(deep, EMPTY)) if deep <= 6 else None)
            row = start + (1, 1, 1, 17, 1) * deep + (1, 1, 1, 17, 0, 1, 0, 1, 0)
            self.assertEqual(unpacked(row), ((0,), (), deep_tree(deep + 1, ("file", 0, ()))) if deep < 6 else None)
        for many in (38, 39, 40, 41):
            names = tuple((name, EMPTY) for name in words(many))
            row = slow_meta(((0,), (), names))
            self.assertEqual(unpacked(row), ((0,), (), names) if many <= 40 else None)
            both = (("a", ("room", names[:20])),) + names[20:]
            row = slow_meta(((0,), (), both))
            self.assertEqual(unpacked(row), ((0,), (), both) if many < 40 else None)

    def test_wrong_numbers(self):
        for function in (unpacked_whole, unpacked_name, unpacked):
            for index, rows in WRONG_NUMBERS:
                for row in rows:
                    if index is None and isinstance(row, tuple) and len(row) < 30000:
                        continue
                    self.index(InvalidNumbers, index, function, row)
            self.index(InvalidNumbers, 29999, function, (1,) * 29999 + (97,))


class Kinds(Told):

    def test_used(self):
        for value in WRONG_LOTS:
            self.none((value, (), ()))

    def none(self, value):
        """The value is no META, and packed says so."""
        self.assertIs(is_meta(value), False)
        self.given(InvalidMeta, value, packed, value)

    def test_marks(self):
        right = (2, 5, "done")
        for outcome in OUTCOMES:
            self.assertIs(is_meta(((0,), ((0, 1, outcome), (7, MOST, outcome)), ())), True)
        wrong = [5, "ab", [right], right, (right, right), (right, (1, 1, "done")), (right, (2, 6, "done")),
                 ((0, 1, "used"), (0, 2, "used")), tuple((client, 1, "done") for client in range(9)),
                 ((0, 1, "done"),) * 4000]
        wrong += [(mark,) for mark in ODD + (5, (), (2, 5), (2, 5, "done", 1), [2, 5, "done"], (8, 1, "done"),
                                             (-1, 1, "done"), (0, 0, "done"), (0, MOST + 1, "done"), (0, -1, "done"),
                                             (True, 1, "done"), (0, True, "done"), ("0", 1, "done"), (0, "1", "done"),
                                             (0, 1, 0), (0, 1, None), (0, 1, "Done"), (0, 1, ""), (0, 1, "down"),
                                             (0, 1, "full"), (0, 1, "old"), (0, 1, "early"), (0, 1, ("done",)))]
        wrong += [((value, 1, "done"),) for value in ODD] + [((0, value, "done"),) for value in ODD]
        wrong += [((0, 1, value),) for value in ODD] + list(ODD)
        for value in wrong:
            self.none(((0,), value, ()))

    def test_files(self):
        for node in (("file", 0, ()), ("file", 1, (1,)), ("file", 60, (MOST,)), ("file", 60, tuple(range(1, 61))),
                     FILE):
            self.assertIs(is_meta(((0,), (), (("a", node),))), True)
        wrong = [("file", 0, (1,)), ("file", 1, ()), ("file", 60, ()), ("file", 1, (1, 2)),
                 ("file", 60, tuple(range(1, 62))), ("file", 61, (1,)), ("file", -1, ()), ("file", 5, (0,)),
                 ("file", 5, (0, 1)), ("file", 5, (2, 2)), ("file", 5, (3, 2)), ("file", 5, (MOST + 1,)),
                 ("file", 5, (1, MOST + 1)), ("file", True, (1,)), ("file", 5, (True,)), ("file", 5, [1]), ("file", 5),
                 ("file", (5,)), ("file", 5, (1,), 1), ["file", 5, (1,)], ("File", 5, (1,)), ("room", 5, (1,)),
                 ("file", 5, ("1",)), ("file", 5, ((1,),)), ("room",), ("room", 5), ("file", ()), ("file", (1, 2))]
        wrong += list(ODD) + [(value, 5, (1,)) for value in ODD] + [("file", value, (1,)) for value in ODD]
        wrong += [("file", 5, value) for value in ODD] + [("file", 5, (value,)) for value in ODD]
        wrong += [("room", value) for value in ODD]
        for node in wrong:
            self.none(((0,), (), (("a", node),)))
            self.none(((0,), (), (("a", EMPTY), ("b", ("room", (("c", node),))))))

    def test_trees(self):
        for many in (40, 41):
            self.assertIs(is_meta(((0,), (), tuple((name, EMPTY) for name in words(many)))), many == 40)
        for deep in range(1, 10):
            self.assertIs(is_meta(((0,), (), deep_tree(deep, FILE))), deep <= 6)
        for tree in ODD + (5, ("a", EMPTY), [("a", EMPTY)], (("a", EMPTY), ("a", EMPTY)), (("b", EMPTY), ("a", EMPTY)),
                           (("A", EMPTY),), (("", EMPTY),), (("abcdefghi", EMPTY),), (("a", EMPTY, 1),), (("a",),)):
            self.none(((0,), (), tree))

    def test_no_metas(self):
        for value in ODD + (5, (), ((0,),), ((0,), ()), ((0,), (), (), ()), [(0,), (), ()], ((), (), ()),
                            (1, (0,), (), ())):
            self.none(value)
        self.assertIs(self.by_name(is_meta, value=((0,), (), ())), True)
