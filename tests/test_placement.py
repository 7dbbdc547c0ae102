"""Placement: points 25 to 28 and the heading lettermend/placement.py."""

import itertools

from lettermend.errors import InvalidChunk, InvalidShelf, InvalidUsed, InvalidWidth
from lettermend.placement import gone_and_come, load, order_of, placed, score
from tests.support import ODD, Told

CHUNKS = (1, 2, 3, 7, 551, 552, 553, 1008, 1009, 1010, 1561, 2018, 10 ** 9, 552 + 1009 * 10 ** 6, 10 ** 300)
LOTS = tuple(lot for many in range(1, 11) for lot in itertools.combinations(range(10), many))
WRONG_CHUNKS = ODD + (0, -1, -1009)
WRONG_LOTS = ODD + (5, (), (10,), (-1,), (0, 0), (1, 0), (0, 1, 1), (0, 2, 1), (0, True), (False, 1), [0, 1],
                    tuple(range(11)), (0, "1"), (0, None), ((0, 1),), (0, (1,)), (0,) * 4000, (0, 10 ** 30))


def slow_score(chunk, shelf):
    """The score by the words of point 25."""
    return (chunk * 7919 + shelf * 104729 + chunk * shelf * 631) % 1009


def slow_order(chunk, used):
    """The order of a chunk by the words of point 25."""
    left, found = list(used), []
    while left:
        first = min(left, key=lambda shelf: (slow_score(chunk, shelf), shelf))
        left.remove(first)
        found.append(first)
    return tuple(found)


class Scores(Told):

    def test_by_words(self):
        for chunk in CHUNKS + tuple(range(1, 2100, 13)):
            for shelf in range(10):
                self.assertEqual(score(chunk, shelf), slow_score(chunk, shelf))
        self.assertEqual((score(1, 0), score(1, 3), score(552, 9), score(2, 7)), (856, 110, 300, 16))
        self.assertEqual(self.by_name(score, chunk=1, shelf=3), 110)

    def test_alike_and_unlike(self):
        for chunk in range(1, 1010):
            scores = [score(chunk, shelf) for shelf in range(10)]
            self.assertEqual([score(chunk + 1009, shelf) for shelf in range(10)], scores)
            self.assertEqual([score(chunk + 1009 * 10 ** 20, shelf) for shelf in range(10)], scores)
            if chunk == 552:
                self.assertEqual(scores, [300] * 10)
            else:
                self.assertEqual(len(set(scores)), 10)
        for shelf in range(10):
            self.assertEqual(sorted(score(chunk, shelf) for chunk in range(500, 1509)), list(range(1009)))

    def test_wrong(self):
        for value in WRONG_CHUNKS:
            self.given(InvalidChunk, value, score, value, 0)
        for value in ODD + (-1, 10, 10 ** 30):
            self.given(InvalidShelf, value, score, 1, value)
        self.in_order(score, (("chunk", 1, 0, InvalidChunk, "given"), ("shelf", 9, 10, InvalidShelf, "given")))


class Orders(Told):

    def test_by_words(self):
        for chunk in CHUNKS:
            for used in LOTS[::7] + LOTS[-1:]:
                self.assertEqual(order_of(chunk, used), slow_order(chunk, used))
        self.assertEqual(order_of(552, (2, 3, 5, 9)), (2, 3, 5, 9))
        self.assertEqual(order_of(552 + 1009, tuple(range(10))), tuple(range(10)))
        self.assertEqual(self.by_name(order_of, chunk=1, used=(0, 1, 2, 3, 4)), (3, 1, 4, 2, 0))

    def test_no_matter_which_are_used(self):
        for chunk in CHUNKS:
            whole = order_of(chunk, tuple(range(10)))
            for used in LOTS[::5]:
                self.assertEqual(order_of(chunk, used), tuple(shelf for shelf in whole if shelf in used))
                self.assertEqual(order_of(chunk + 1009, used), order_of(chunk, used))

    def test_wrong(self):
        for value in WRONG_CHUNKS:
            self.given(InvalidChunk, value, order_of, value, (0,))
            self.given(InvalidChunk, value, placed, value, (0,), 1)
            self.given(InvalidChunk, value, gone_and_come, value, (0,), (1,), 1)
        for value in WRONG_LOTS:
            self.given(InvalidUsed, value, order_of, 1, value)
            self.given(InvalidUsed, value, placed, 1, value, 1)
            self.given(InvalidUsed, value, gone_and_come, 1, value, (0,), 1)
            self.given(InvalidUsed, value, gone_and_come, 1, (0,), value, 1)
            self.given(InvalidUsed, value, load, value, 1, 0)
        self.in_order(order_of, (("chunk", 1, 0, InvalidChunk, "given"), ("used", (0,), (), InvalidUsed, "given")))


class Placed(Told):

    def test_by_words(self):
        for chunk in CHUNKS[:8]:
            for used in LOTS[::3] + LOTS[-1:]:
                for width in range(1, len(used) + 1):
                    self.assertEqual(placed(chunk, used, width), tuple(sorted(slow_order(chunk, used)[:width])))
        self.assertEqual((placed(1, (0, 1, 2, 3, 4), 3), placed(552, (1, 4, 7, 9), 2)), ((1, 3, 4), (1, 4)))
        self.assertEqual(self.by_name(placed, chunk=1, used=(0, 1, 2, 3, 4), width=1), (3,))
        self.assertEqual(placed(1, (0, 1, 2, 3, 4), 5), (0, 1, 2, 3, 4))

    def test_greater_width(self):
        for chunk in CHUNKS:
            for used in LOTS[::11] + LOTS[-1:]:
                lots = [placed(chunk, used, width) for width in range(1, len(used) + 1)]
                self.assertEqual([len(lot) for lot in lots], list(range(1, len(used) + 1)))
                self.assertEqual(lots[-1], used)
                for lesser, greater in zip(lots, lots[1:]):
                    self.assertLess(set(lesser), set(greater))

    def test_one_shelf_more_and_one_fewer(self):
        for chunk in CHUNKS[:8]:
            for used in LOTS[::4]:
                for shelf in (other for other in range(10) if other not in used):
                    more = tuple(sorted(used + (shelf,)))
                    for width in range(1, len(used) + 1):
                        before, behind = set(placed(chunk, used, width)), set(placed(chunk, more, width))
                        self.assertLessEqual(behind - before, {shelf})
                        self.assertEqual(len(before - behind), len(behind - before))
                        self.assertEqual(shelf in behind, behind != before)

    def test_wrong(self):
        for used in ((3,), (0, 9), tuple(range(10))):
            for value in ODD + (0, -1, len(used) + 1, 11, 10 ** 30):
                self.given(InvalidWidth, value, placed, 1, used, value)
                self.given(InvalidWidth, value, load, used, value, used[0])
                self.given(InvalidWidth, value, gone_and_come, 1, used, tuple(range(10)), value)
                self.given(InvalidWidth, value, gone_and_come, 1, tuple(range(10)), used, value)
        self.in_order(placed, (("chunk", 1, 0, InvalidChunk, "given"), ("used", (0, 1), (1, 0), InvalidUsed, "given"),
                               ("width", 2, 3, InvalidWidth, "given")))


class GoneAndCome(Told):

    def test_by_words(self):
        pairs = list(zip(LOTS[::5], LOTS[3::7])) + [((0, 1), (8, 9)), (LOTS[-1], (4,)), ((4,), LOTS[-1])]
        for chunk in CHUNKS:
            for used, other in pairs:
                for width in range(1, min(len(used), len(other)) + 1):
                    before, behind = set(placed(chunk, used, width)), set(placed(chunk, other, width))
                    gone, come = gone_and_come(chunk, used, other, width)
                    self.assertEqual((gone, come), (tuple(sorted(before - behind)), tuple(sorted(behind - before))))
                    self.assertEqual(len(gone), len(come))
                    self.assertLessEqual(len(gone), len(set(used) ^ set(other)))
                    self.assertEqual(gone_and_come(chunk, other, used, width), (come, gone))

    def test_no_piece_moves_between_those_that_stay(self):
        for chunk in CHUNKS[:6]:
            for used in LOTS[::9]:
                for other in LOTS[1::9]:
                    if set(used) <= set(other):
                        gone, come = gone_and_come(chunk, used, other, len(used))
                        self.assertLessEqual(set(come), set(other) - set(used))
                        gone, come = gone_and_come(chunk, other, used, len(used))
                        self.assertLessEqual(set(gone), set(other) - set(used))

    def test_some(self):
        self.assertEqual(gone_and_come(2, (0, 1, 2, 3, 4), (0, 1, 2, 3, 4, 7), 3), ((2,), (7,)))
        self.assertEqual(gone_and_come(2, (0, 1), (0, 1), 2), ((), ()))
        self.assertEqual(self.by_name(gone_and_come, chunk=5, used=(0, 1, 2), other=(3, 4, 5), width=3),
                         ((0, 1, 2), (3, 4, 5)))

    def test_wrong(self):
        self.in_order(gone_and_come, (("chunk", 1, True, InvalidChunk, "given"),
                                      ("used", (0, 1), [0, 1], InvalidUsed, "given"),
                                      ("other", (0, 2), (2, 0), InvalidUsed, "given"),
                                      ("width", 2, 3, InvalidWidth, "given")))


class Loads(Told):

    def test_by_words(self):
        for used, width in (((0, 1, 2, 3, 4), 3), ((2, 9), 1), ((4,), 1), (tuple(range(10)), 7), ((1, 3, 5, 7), 4)):
            loads = [load(used, width, shelf) for shelf in used]
            self.assertEqual(sum(loads), 1009 * width)
            for start in (1, 400, 10 ** 9):
                lots = [placed(chunk, used, width) for chunk in range(start, start + 1009)]
                self.assertEqual([sum(shelf in lot for lot in lots) for shelf in used], loads)
        self.assertEqual(self.by_name(load, used=(3,), width=1, shelf=3), 1009)

    def test_wrong(self):
        for used in ((1,), (1, 3, 8)):
            for value in ODD + (0, 2, 9, 10, -1, 10 ** 30):
                self.given(InvalidShelf, value, load, used, 1, value)
        self.in_order(load, (("used", (0, 1), (1, 1), InvalidUsed, "given"), ("width", 2, 3, InvalidWidth, "given"),
                             ("shelf", 1, 2, InvalidShelf, "given")))
