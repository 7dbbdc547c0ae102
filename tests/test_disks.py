"""Disks: points 14 and 15 and the heading lettermend/disks.py."""

import unittest

from lettermend.disks import fresh_disk, is_block, is_disk, run_writes, torn_at, written
from lettermend.errors import (InvalidBlock, InvalidCount, InvalidDisk, InvalidHomes, InvalidPlace, InvalidTorn,
                               InvalidWrites)
from tests.support import ODD, Told

LEAST, MOST = ((),) * 11, ((),) * 70
LONG = tuple(range(90))
MIXED = tuple(None if place % 4 == 3 else (place,) * (place % 3) for place in range(13))
WRONG_BLOCKS = tuple(value for value in ODD if value is not None) + (
    5, (-1,), (1, -1), (1, True), (1, "2"), [], [1], (1, (2,)), (0,) * 91, (None, 1))
WRONG_DISKS = ODD + (11, (), ((),) * 10, ((),) * 71, [()] * 11, list(MIXED), (None,) * 10, ("",) * 11, (1,) * 11,
                     MIXED[:5] + ([],) + MIXED[6:], MIXED[:12] + ((-1,),), (MIXED,))


class Kinds(Told):

    def test_blocks(self):
        for value in (None, (), (0,), (1, 2, 3), LONG, (10 ** 300,) * 90):
            self.assertIs(is_block(value), True)
        for value in WRONG_BLOCKS:
            self.assertIs(is_block(value), False)
        self.assertIs(self.by_name(is_block, value=(1,)), True)

    def test_disks(self):
        for value in (LEAST, MOST, MIXED, (None,) * 11, (LONG,) * 70, fresh_disk(1), fresh_disk(60)):
            self.assertIs(is_disk(value), True)
        for value in WRONG_DISKS:
            self.assertIs(is_disk(value), False)
        for place in range(11):
            for value in WRONG_BLOCKS:
                self.assertIs(is_disk(LEAST[:place] + (value,) + LEAST[place + 1:]), False)
        self.assertIs(self.by_name(is_disk, value=LEAST), True)

    def test_fresh(self):
        for homes in range(1, 61):
            self.assertEqual(fresh_disk(homes), ((),) * (10 + homes))
        self.assertEqual((fresh_disk(1), fresh_disk(60)), (LEAST, MOST))
        self.assertEqual(self.by_name(fresh_disk, homes=3), ((),) * 13)
        for value in ODD + (-1, 0, 61, 10 ** 30):
            self.given(InvalidHomes, value, fresh_disk, value)


class OneBlock(Told):

    def test_each_place(self):
        for disk in (LEAST, MIXED, MOST):
            for place in range(len(disk)):
                for block in ((), (7, 8), LONG):
                    self.assertEqual(written(disk, place, block), disk[:place] + (block,) + disk[place + 1:])
                self.assertEqual(torn_at(disk, place), disk[:place] + (None,) + disk[place + 1:])
        self.assertEqual(self.by_name(written, disk=LEAST, place=3, block=(5,))[2:5], ((), (5,), ()))
        self.assertEqual(self.by_name(torn_at, disk=LEAST, place=3)[2:5], ((), None, ()))

    def test_wrong(self):
        for value in WRONG_DISKS:
            self.given(InvalidDisk, value, written, value, 0, ())
            self.given(InvalidDisk, value, torn_at, value, 0)
        for disk in (LEAST, MIXED, MOST):
            for value in ODD + (-1, len(disk), len(disk) + 1, 10 ** 30):
                self.given(InvalidPlace, value, written, disk, value, ())
                self.given(InvalidPlace, value, torn_at, disk, value)
        for value in WRONG_BLOCKS + (None,):
            self.given(InvalidBlock, value, written, MIXED, 12, value)
        self.in_order(written, (("disk", MIXED, MIXED[:5], InvalidDisk, "given"),
                                ("place", 12, 13, InvalidPlace, "given"),
                                ("block", (1,), None, InvalidBlock, "given")))
        self.in_order(torn_at, (("disk", MIXED, [MIXED], InvalidDisk, "given"),
                                ("place", 12, True, InvalidPlace, "given")))


class Writes(Told):

    def test_each_cut(self):
        writes = tuple((place * 5 % 13, (at,) * (at % 4)) for at, place in enumerate(range(18)))
        for disk in (MIXED, fresh_disk(3)):
            for many in (0, 1, 2, 17, 18):
                after = disk
                for count in range(many + 3):
                    self.assertEqual(run_writes(disk, writes[:many], count, False), after)
                    if count >= many:
                        self.assertEqual(run_writes(disk, writes[:many], count, True), after)
                        continue
                    place, block = writes[count]
                    self.assertEqual(run_writes(disk, writes[:many], count, True),
                                     after[:place] + (None,) + after[place + 1:])
                    after = after[:place] + (block,) + after[place + 1:]
                for torn in (False, True):
                    self.assertEqual(run_writes(disk, writes[:many], 10 ** 300, torn), after)

    def test_one_place_more_than_once(self):
        writes = ((4, (1,)), (4, ()), (4, (2, 3)))
        cut = [run_writes(LEAST, writes, count, torn)[4] for count in range(4) for torn in (False, True)]
        self.assertEqual(cut, [(), None, (1,), None, (), None, (2, 3), (2, 3)])
        # Whatever stood there, a torn write leaves nothing; the next whole one is whole again.
        self.assertEqual(run_writes(torn_at(LEAST, 4), writes, 1, False)[4], (1,))
        self.assertEqual(self.by_name(run_writes, disk=LEAST, writes=writes, count=1, torn=True), torn_at(LEAST, 4))
        self.assertEqual(run_writes(LEAST, ((10, LONG),), 1, False)[10], LONG)
        self.assertEqual(run_writes(MOST, ((69, LONG),), 1, False)[69], LONG)

    def test_wrong(self):
        for value in WRONG_DISKS:
            self.given(InvalidDisk, value, run_writes, value, (), 0, False)
        one = (10, (1,))
        for value in (True, False, None, "", "ab", [], [one], {}, {1}, 3, (one,) * 19, one, (one, one[1]), (None,)):
            self.given(InvalidWrites, value, run_writes, LEAST, value, 0, False)
        for write in ODD + (3, (10,), (10, (1,), (2,)), [10, (1,)], (11, (1,)), (-1, (1,)), (True, ()), ("10", ()),
                            (None, ()), ((10, (1,)),)):
            for writes in ((write,), (one, write), (one,) * 17 + (write,)):
                self.given(InvalidWrites, writes, run_writes, LEAST, writes, 0, False)
        for block in WRONG_BLOCKS + (None,):
            writes = (one, (3, block))
            self.given(InvalidWrites, writes, run_writes, LEAST, writes, 0, False)
        for value in ODD + (-1, -10 ** 30):
            self.given(InvalidCount, value, run_writes, LEAST, (one,), value, False)
        for value in ODD + (0, 1, 2, (True,)):
            if value is not True and value is not False:
                self.given(InvalidTorn, value, run_writes, LEAST, (one,), 0, value)
                self.given(InvalidTorn, value, run_writes, LEAST, (), 10, value)
        self.in_order(run_writes, (("disk", LEAST, ((),) * 10, InvalidDisk, "given"),
                                   ("writes", (one,), ((11, ()),), InvalidWrites, "given"),
                                   ("count", 1, -1, InvalidCount, "given"),
                                   ("torn", True, 1, InvalidTorn, "given")))
        self.assertEqual(run_writes(MOST, ((11, ()),), 0, False), MOST)


if __name__ == "__main__":
    unittest.main()
