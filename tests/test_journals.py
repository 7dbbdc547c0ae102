"""Journals: points 16 to 19 and the heading lettermend/journals.py."""

import unittest

from lettermend.disks import fresh_disk, run_writes
from lettermend.errors import InvalidBatch, InvalidDisk, NotMended
from lettermend.journals import batch_steps, contents, disk_mending, is_quiet, is_sound, mended_disk
from tests.support import ODD, Told

FULL = tuple(range(80))
WRONG_DISKS = ODD + (11, (), ((),) * 10, ((),) * 71, [()] * 11, ("",) * 11)


def disk_of(head, slots, rest):
    """A disk of this head, these first slots, and these blocks from place 9 on, at least two."""
    return (head,) + tuple(slots) + ((),) * (8 - len(slots)) + tuple(rest)


def quiet_disk(homes):
    """A quiet disk whose places from 9 on hold something, and whose slots hold anything."""
    rest = tuple((place, place * 3) if place % 3 else () for place in range(homes + 1))
    return disk_of((), (None, (), (3,), (10, 1), (10, 2), (9,), None, (10 ** 9, 5)), rest)


def batch_of(many, homes):
    """A batch of so many writes, the root's place among them if many is odd."""
    places = [9] if many % 2 else []
    places += [10 + 7 * at % homes for at in range(many - len(places))]
    return tuple((place, FULL if at == 1 else (place,) * at) for at, place in enumerate(places))


def put_in(blocks, writes):
    """Contents with these writes' blocks at their places, by the words of point 17."""
    blocks = list(blocks)
    for place, block in writes:
        blocks[place - 9] = block
    return tuple(blocks)


CASES = tuple((quiet_disk(homes), batch_of(many, homes)) for many in range(1, 9) for homes in (8, 60)) + (
    (fresh_disk(1), ((10, ()),)), (fresh_disk(1), ((9, FULL), (10, FULL))), (fresh_disk(60), ((69, (1,)),)))

SOUND = (fresh_disk(1), fresh_disk(60), disk_of(None, (), ((), (1,))), disk_of((1,), ((10, 5),), ((), None)),
         disk_of((1,), ((9,),), (None, (4,))), disk_of((2,), ((10, 5), (9,)), (None, None)),
         disk_of((8,), tuple((17 - at, at) for at in range(8)), ((1,),) + (None,) * 8),
         disk_of((), (None,) * 8, ((), ())), disk_of(None, (None, (3,), (10,), (10,)), ((), ())),
         disk_of((1,), ((10,), None, (), (10,), (99,)), ((), ())), disk_of((1,), ((10,) + (7,) * 89,), ((), ())),
         quiet_disk(8), quiet_disk(60))
NOT_SOUND = (disk_of((0,), (), ((), ())), disk_of((9,), tuple((10 + at,) for at in range(8)), ((),) * 10),
             disk_of((9,), tuple((10 + at,) for at in range(8)), ((9, 1),) + ((),) * 9),
             disk_of((9,), tuple((10 + at,) for at in range(8)), ((18, 1),) + ((),) * 9),
             disk_of((1, 1), ((10,),), ((), ())), disk_of((1, 0), ((10,),), ((), ())),
             disk_of((10 ** 30,), ((10,),), ((), ())),
             disk_of((1,), (), ((), ())), disk_of((1,), (None,), ((), ())), disk_of((2,), ((10,),), ((), ())),
             disk_of((2,), ((10,), None), ((), ())), disk_of((1,), ((8,),), ((), ())),
             disk_of((1,), ((0, 5),), ((), ())),
             disk_of((1,), ((11,),), ((), ())), disk_of((2,), ((10, 1), (10, 2)), ((), ())),
             disk_of((3,), ((9,), (10,), (9,)), ((), ())), disk_of((), (), ((), None)), disk_of((), (), (None, ())),
             disk_of(None, ((10,),), ((), None)), disk_of(None, (), (None, ())),
             disk_of((1,), ((10,),), (None, ())), disk_of((1,), ((9,), (10,)), ((), None)),
             disk_of((2,), ((10,), (9,)), ((), (), None)))


class Sound(Told):

    def test_right_and_wrong_ones(self):
        for disk in SOUND:
            self.assertIs(is_sound(disk), True, disk)
            self.assertIs(is_quiet(disk), disk[0] == ())
        for disk in NOT_SOUND:
            self.assertIs(is_sound(disk), False, disk)
            self.assertIs(is_quiet(disk), False)
        for value in WRONG_DISKS:
            self.assertIs(is_sound(value), False)
            self.assertIs(is_quiet(value), False)
        self.assertIs(self.by_name(is_sound, value=SOUND[3]), True)
        self.assertIs(self.by_name(is_quiet, value=SOUND[0]), True)

    def test_no_disk_at_all(self):
        for disk in SOUND:
            for place in range(len(disk)):
                for value in (True, 1, [], "", (-1,), ((),), (0,) * 91):
                    spoilt = disk[:place] + (value,) + disk[place + 1:]
                    self.assertIs(is_sound(spoilt), False)
                    self.assertIs(is_quiet(spoilt), False)

    def test_torn_homes_and_slots(self):
        disk = disk_of((2,), ((11, 4), (13,)), ((),) * 6)
        for place in range(9, 15):
            self.assertIs(is_sound(disk[:place] + (None,) + disk[place + 1:]), place in (11, 13))
        for place in range(1, 9):
            self.assertIs(is_sound(disk[:place] + (None,) + disk[place + 1:]), place > 2)
        for count in range(1, 9):
            named = tuple((9 + at,) for at in range(8))
            disk = disk_of((count,), named, (None,) * count + ((),) * (10 - count))
            self.assertIs(is_sound(disk), True)
            self.assertIs(is_sound(disk[:9 + count] + (None,) + disk[10 + count:]), False)

    def test_contents(self):
        self.assertEqual(contents(fresh_disk(2)), ((),) * 3)
        self.assertEqual(contents(disk_of(None, ((10, 7),), ((), (1,)))), ((), (1,)))
        self.assertEqual(contents(disk_of((), ((10, 7),), ((), (1,)))), ((), (1,)))
        self.assertEqual(contents(disk_of((1,), ((10, 7), (9, 8)), ((), (1,)))), ((), (7,)))
        self.assertEqual(contents(disk_of((2,), ((10, 7), (9,)), ((3,), None))), ((), (7,)))
        self.assertEqual(contents(SOUND[6]), ((1,),) + tuple((7 - at,) for at in range(8)))
        for disk in SOUND:
            told = contents(disk)
            self.assertEqual(len(told), len(disk) - 9)
            self.assertNotIn(None, told)
        self.assertEqual(self.by_name(contents, disk=fresh_disk(1)), ((), ()))

    def test_wrong(self):
        for function in (contents, disk_mending, mended_disk):
            for value in WRONG_DISKS + NOT_SOUND:
                self.given(InvalidDisk, value, function, value)


class Batches(Told):

    def test_steps(self):
        for disk, batch in CASES:
            many = len(batch)
            steps = batch_steps(disk, batch)
            self.assertEqual(len(steps), 2 * many + 2)
            self.assertEqual(steps[:many], tuple((at + 1, (place,) + block) for at, (place, block) in enumerate(batch)))
            self.assertEqual(steps[many:], ((0, (many,)),) + batch + ((0, ()),))
        self.assertEqual(self.by_name(batch_steps, disk=fresh_disk(1), batch=((10, (4,)),)),
                         ((1, (10, 4)), (0, (1,)), (10, (4,)), (0, ())))

    def test_each_cut(self):
        for disk, batch in CASES:
            steps = batch_steps(disk, batch)
            before, after = contents(disk), put_in(contents(disk), batch)
            for count in list(range(len(steps) + 3)) + [10 ** 30]:
                for torn in (False, True):
                    cut = run_writes(disk, steps, count, torn)
                    self.assertIs(is_sound(cut), True)
                    self.assertEqual(contents(cut), before if count <= len(batch) else after)
                    self.assertIs(is_quiet(cut), cut[0] == ())
            whole = run_writes(disk, steps, len(steps), False)
            self.assertIs(is_quiet(whole), True)
            self.assertEqual(whole[9:], after)

    def test_wrong(self):
        disk = fresh_disk(20)
        for value in WRONG_DISKS + NOT_SOUND:
            self.given(InvalidDisk, value, batch_steps, value, ((10, ()),))
        one = (10, (1,))
        for value in ODD + (3, (), [one], one, (one, one), ((9, ()), (10, ()), (9, (1,))),
                            tuple((10 + at, ()) for at in range(9)), (one, (30, ())), (one, (8, ())), (one, (0, ())),
                            (one, (-1, ()))):
            self.given(InvalidBatch, value, batch_steps, disk, value)
        for write in ODD + ((11,), (11, (), ()), [11, ()], (11, None), (11, [1]), (11, 1), (11, (-1,)), (11, (True,)),
                            (11, (0,) * 81), (11, (0,) * 90), (11, ((1,),)), ("11", ()), (True, ()), (None, ())):
            for batch in ((write,), (one, write), (write, one)):
                self.given(InvalidBatch, batch, batch_steps, disk, batch)
        self.assertEqual(len(batch_steps(disk, ((29, FULL),))), 4)
        for head in (None, (1,), (2,)):
            spoilt = disk_of(head, ((10, 5), (9,)), ((), ()))
            self.given(NotMended, spoilt[0], batch_steps, spoilt, (one,))
            self.given(InvalidBatch, (), batch_steps, spoilt, ())
            self.tells(NotMended, ("given", spoilt[0]), batch_steps, disk=spoilt, batch=(one,))
        self.in_order(batch_steps, (("disk", disk, NOT_SOUND[0], InvalidDisk, "given"),
                                    ("batch", (one,), (one, one), InvalidBatch, "given")))


class Mending(Told):

    def test_by_words(self):
        self.assertEqual(disk_mending(quiet_disk(8)), ())
        self.assertEqual(disk_mending(disk_of(None, ((10, 7),), ((), ()))), ((0, ()),))
        self.assertEqual(disk_mending(disk_of((1,), ((10, 7), (9, 8)), ((), None))), ((10, (7,)), (0, ())))
        self.assertEqual(disk_mending(disk_of((2,), ((10, 7), (9,)), ((), ()))), ((10, (7,)), (9, ()), (0, ())))
        self.assertEqual(len(disk_mending(SOUND[6])), 9)
        self.assertEqual(self.by_name(disk_mending, disk=SOUND[3]), ((10, (5,)), (0, ())))
        self.assertEqual(self.by_name(mended_disk, disk=SOUND[3]), disk_of((), ((10, 5),), ((), (5,))))

    def test_whole_and_twice(self):
        for disk in SOUND + tuple(run_writes(disk, batch_steps(disk, batch), count, torn) for disk, batch in CASES
                                  for count in range(2 * len(batch) + 3) for torn in (False, True)):
            whole = mended_disk(disk)
            self.assertEqual(whole, ((),) + disk[1:9] + contents(disk))
            self.assertIs(is_quiet(whole), True)
            self.assertEqual(disk_mending(whole), ())
            self.assertEqual(mended_disk(whole), whole)
            writes = disk_mending(disk)
            self.assertEqual(run_writes(disk, writes, len(writes), False), whole)
            self.assertEqual(writes == (), disk[0] == ())

    def test_each_cut(self):
        disks = list(SOUND)
        for disk, batch in CASES[::3]:
            steps = batch_steps(disk, batch)
            disks += [run_writes(disk, steps, count, torn) for count in range(len(steps)) for torn in (False, True)]
        for disk in disks:
            writes = disk_mending(disk)
            for count in range(len(writes) + 2):
                for torn in (False, True):
                    cut = run_writes(disk, writes, count, torn)
                    self.assertIs(is_sound(cut), True)
                    self.assertEqual(contents(cut), contents(disk))
                    self.assertEqual(mended_disk(cut), mended_disk(disk))
                    again = run_writes(cut, disk_mending(cut), count // 2, not torn)
                    self.assertEqual(contents(again), contents(disk))
                    self.assertEqual(mended_disk(again), mended_disk(disk))


if __name__ == "__main__":
    unittest.main()
