"""Files cut up into messages: points 8 and 35 and the heading lettermend/files.py."""

from lettermend.clustererrors import InvalidLength, InvalidMessages, InvalidNumbers
from lettermend.errors import InvalidScheme
from lettermend.files import cut_up, many_chunks, put_together
from lettermend.schemes import size_of
from tests.support import ODD, Told, all_schemes, rows_like

SCHEMES = tuple(all_schemes((11, 31, 97), 6)) + ((97, "letters", 10, 9, 9), (31, "room", 10, 4, 6),
                                                 (97, "letters", 10, 1, 9))
WRONG_SCHEMES = ODD + ((12, "letters", 4, 2, 2), (11, "room", 6, 3, 4), (11, "letters", 4, 3, 2), (11, "letters", 4, 2),
                       [31, "letters", 4, 3, 3])
FEW = (11, "letters", 4, 2, 2)


class Lengths(Told):

    def test_many(self):
        for scheme in SCHEMES:
            size = size_of(scheme)
            for times in (0, 1, 2, 7):
                for more in range(size):
                    self.assertEqual(many_chunks(scheme, times * size + more), times + (more > 0))
        self.assertEqual(many_chunks(FEW, 30000), 10000)
        self.assertEqual(self.by_name(many_chunks, scheme=FEW, length=7), 3)

    def test_wrong(self):
        for value in WRONG_SCHEMES:
            self.given(InvalidScheme, value, many_chunks, value, 0)
            self.given(InvalidScheme, value, cut_up, value, ())
            self.given(InvalidScheme, value, put_together, value, 0, ())
        for value in ODD + (-1, 30001, 10 ** 30):
            self.given(InvalidLength, value, many_chunks, FEW, value)
            self.given(InvalidLength, value, put_together, FEW, value, ())
        self.in_order(many_chunks, (("scheme", FEW, FEW[:4], InvalidScheme, "given"),
                                    ("length", 3, -1, InvalidLength, "given")))


class CutUp(Told):

    def test_there_and_back(self):
        for scheme in SCHEMES:
            size = size_of(scheme)
            for length in sorted({0, 1, size - 1, size, size + 1, 2 * size - 1, 2 * size, 2 * size + 1, 5 * size + 2}):
                numbers = rows_like(scheme[0], length, length)
                messages = cut_up(scheme, numbers)
                self.assertEqual(len(messages), many_chunks(scheme, length))
                self.assertEqual({message.__class__ for message in messages} | {tuple}, {tuple})
                self.assertEqual({len(message) for message in messages} | {size}, {size})
                joined = sum(messages, ())
                self.assertEqual(joined, numbers + (0,) * (len(joined) - length))
                self.assertEqual(put_together(scheme, length, messages), numbers)
                # What fills the last message up is never read.
                if len(joined) > length:
                    spoilt = messages[:-1] + (messages[-1][:-1] + (5,),)
                    self.assertEqual(put_together(scheme, length, spoilt), numbers)
        self.assertEqual(cut_up(FEW, ()), ())
        self.assertEqual(put_together(FEW, 0, ()), ())
        self.assertEqual(self.by_name(cut_up, scheme=FEW, numbers=(1, 2, 3, 4)), ((1, 2, 3), (4, 0, 0)))
        self.assertEqual(self.by_name(put_together, scheme=FEW, length=4, messages=((1, 2, 3), (4, 5, 6))),
                         (1, 2, 3, 4))
        self.assertEqual(len(cut_up(FEW, (10,) * 30000)), 10000)

    def test_wrong_numbers(self):
        for value in tuple(value for value in ODD if not isinstance(value, tuple)) + ((1,) * 30001, [1, 2], 5):
            self.index(InvalidNumbers, None, cut_up, FEW, value)
        for value in ODD + (-1, 11, 10 ** 30):
            for row, index in (((value,), 0), ((1, value, value), 1), ((0,) * 29999 + (value,), 29999)):
                self.index(InvalidNumbers, index, cut_up, FEW, row)
        self.assertEqual(cut_up((31, "letters", 4, 3, 3), (30,)), ((30, 0, 0, 0, 0, 0),))
        self.index(InvalidNumbers, 0, cut_up, (31, "letters", 4, 3, 3), (31,))
        self.in_order(cut_up, (("scheme", FEW, FEW[:4], InvalidScheme, "given"),
                               ("numbers", (1, 2), (1, 11), InvalidNumbers, 1)))

    def test_wrong_messages(self):
        one = (1, 2, 3)
        for value in tuple(value for value in ODD if not isinstance(value, tuple)) + (
                (), (one,), (one,) * 3, [one, one], (one,) * 4000, 5, one[:1]):
            for length in (4, 5, 6):
                self.index(InvalidMessages, None, put_together, FEW, length, value)
        self.index(InvalidMessages, None, put_together, FEW, 0, (one,))
        for value in ODD + (5, (), (1, 2), (1, 2, 3, 4), [1, 2, 3], (1, 2, 11), (-1, 2, 3), (1, True, 3), (1, 2, None),
                            ("1", 2, 3), (1, 2, (3,))):
            self.index(InvalidMessages, 0, put_together, FEW, 6, (value, one))
            self.index(InvalidMessages, 0, put_together, FEW, 6, (value, value))
            self.index(InvalidMessages, 1, put_together, FEW, 4, (one, value))
        self.in_order(put_together, (("scheme", FEW, FEW[:4], InvalidScheme, "given"),
                                     ("length", 3, True, InvalidLength, "given"),
                                     ("messages", ((1, 2, 3),), (), InvalidMessages, None)))
