"""Shelves: points 21 to 23 and the heading lettermend/shelves.py."""

from lettermend.disks import fresh_disk, run_writes
from lettermend.errors import Full, InvalidChunk, InvalidDisk, InvalidPiece, InvalidRoot, NotHeld
from lettermend.journals import batch_steps, contents, is_quiet, mended_disk
from lettermend.shelves import (drop_batch, free_homes, held, home_of, is_root, is_shelf, piece_of, put_batch,
                                root_batch, shelf_meaning, shelf_root)
from tests.support import ODD, Told
from tests.test_journals import NOT_SOUND, WRONG_DISKS, disk_of

LONGEST = (1, 10 ** 300) + tuple(range(1, 71))
ROOTS = ((1, 1, 1), (10 ** 300, 1, 5), (1, 1, 3, 4, 10 ** 300), (5, 700, 2, 9), LONGEST)
NO_ROOTS = ((1,), (1, 1), (0, 1, 1), (1, 0, 1), (1, 1, 0), (-1, 1, 1), (1, -1, 1), (1, 1, -1), (1, 1, 2, 2),
            (1, 1, 3, 2), (1, 1, 1, 2, 2), LONGEST + (71,), (1, 1, 0, 1), (True, 1, 1), (1, True, 1), (1, 1, True),
            (1, 1, 1, True), ("1", 1, 1), (1, None, 1), (1, 1, (1,)), (1, 1, None), (1, 1, "2"), [1, 1, 1], (0,) * 4000)
HOMES = ((), (1, 0), (7, 5, 6), (10 ** 300, 10 ** 300), (3,) + (0,) * 9)
NO_HOMES = ((1,), (0, 1), (0,), (3,) + (0,) * 10)
NO_PIECES = ODD + (5, (), (0,) * 10, (-1,), (1, -1), (1, True), [1], [1, 2], (1, "2"), (1, None), (1, (2,)),
                   (0,) * 4000)
# Whole journals under way and torn ones: the same two shelves, quiet or not.
QUIET = disk_of((), ((99,), None, (11, 0)), ((4, 9, 2, 3), (8, 3, 0), (), (2, 5), ()))
UNDER_WAY = disk_of((3,), ((11,), (10, 8, 3, 0), (12, 2, 5)), ((4, 9, 2, 3), None, (2, 7), None, ()))
NEW_ROOT = disk_of((1,), ((9, 4, 9, 2, 3),), (None, (8, 3, 0), (), (2, 5), ()))
TORN_HEAD = disk_of(None, ((9,),), ((4, 9, 2, 3), (8, 3, 0), (), (2, 5), ()))
SHELVES = (QUIET, UNDER_WAY, NEW_ROOT, TORN_HEAD)


class Roots(Told):

    def test_right_and_wrong_ones(self):
        self.assertIs(is_root(()), True)
        for root in ROOTS:
            self.assertIs(is_root(root), True, root)
            self.assertIs(is_root(list(root)), False)
        for value in NO_ROOTS + ODD:
            self.assertIs(is_root(value), False, value)
        self.assertIs(self.by_name(is_root, value=(1, 1, 1)), True)


class Shelves(Told):

    def test_right_ones(self):
        for homes in (1, 2, 60):
            self.assertIs(is_shelf(fresh_disk(homes)), True)
        for shelf in SHELVES:
            self.assertIs(is_shelf(shelf), True)
        for root in ROOTS + ((),):
            for home in HOMES:
                self.assertIs(is_shelf(disk_of((), (), (root, (), home))), True)
                self.assertIs(is_shelf(disk_of(None, ((10,),), (root, home, ()))), True)
                self.assertIs(is_shelf(disk_of((2,), ((9,) + root, (11,) + home), ((0,), (), None))), True)
        self.assertIs(self.by_name(is_shelf, value=fresh_disk(1)), True)

    def test_the_root(self):
        for root in NO_ROOTS:
            self.assertIs(is_shelf(disk_of((), (), (root, ()))), False)
        for root in ((1,), (1, 1), (0, 1, 1), (1, 1, 2, 2), LONGEST + (71,)):
            self.assertIs(is_shelf(disk_of((1,), ((9,) + root,), (None, ()))), False)
            self.assertIs(is_shelf(disk_of((1,), ((9, 1, 1, 1),), (root, ()))), True)

    def test_the_homes(self):
        for home in NO_HOMES:
            for blocks in ((home, ()), ((), home)):
                self.assertIs(is_shelf(disk_of((), (), ((),) + blocks)), False)
            self.assertIs(is_shelf(disk_of((1,), ((10,) + home,), ((), ()))), False)
            self.assertIs(is_shelf(disk_of((1,), ((10,),), ((), home))), True)
        self.assertIs(is_shelf(disk_of((), (), ((), (1, 5), (2, 5)))), True)
        self.assertIs(is_shelf(disk_of((), (), ((), (1, 5), (1, 5)))), False)
        self.assertIs(is_shelf(disk_of((), (), ((), (1, 5), (), (1, 6)))), False)
        self.assertIs(is_shelf(disk_of((1,), ((11, 1, 6),), ((), (1, 5), ()))), False)
        self.assertIs(is_shelf(disk_of((2,), ((11, 1, 6), (10,)), ((), (1, 5), ()))), True)
        self.assertIs(is_shelf(disk_of((), ((11, 1, 6),), ((), (1, 5), ()))), True)
        self.assertIs(is_shelf(disk_of((), (), ((),) + tuple((1 + at % 59, 5) for at in range(60)))), False)

    def test_what_is_no_sound_disk(self):
        for value in WRONG_DISKS + NOT_SOUND + (list(QUIET), QUIET[1:9]):
            self.assertIs(is_shelf(value), False)


class Contents(Told):

    def test_meaning(self):
        for shelf in SHELVES:
            self.assertEqual(self.by_name(shelf_meaning, disk=shelf), ((4, 9, 2, 3), ((2, (5,)), (8, (3, 0)))))
            self.assertEqual(self.by_name(shelf_root, disk=shelf), (4, 9, 2, 3))
            self.assertEqual(self.by_name(held, disk=shelf), (2, 8))
        self.assertEqual(shelf_meaning(fresh_disk(3)), ((), ()))
        self.assertEqual((shelf_root(fresh_disk(3)), held(fresh_disk(3))), ((), ()))

    def test_which_home_means_nothing(self):
        blocks = ((5, 1), (3, 1, 2), (9,) + (4,) * 9)
        for places in ((0, 1, 2), (2, 1, 0), (1, 2, 3), (3, 0, 2)):
            homes = [()] * 4
            for place, block in zip(places, blocks):
                homes[place] = block
            shelf = disk_of((), (), [()] + homes)
            self.assertEqual(shelf_meaning(shelf), ((), ((3, (1, 2)), (5, (1,)), (9, (4,) * 9))))
            self.assertEqual(held(shelf), (3, 5, 9))
            for place, block in zip(places, blocks):
                self.assertEqual(home_of(shelf, block[0]), 10 + place)
                self.assertEqual(piece_of(shelf, block[0]), block[1:])
            self.assertEqual(free_homes(shelf), (10 + (6 - sum(places)),))

    def test_pieces_and_homes(self):
        for shelf in (QUIET, NEW_ROOT, TORN_HEAD):
            self.assertEqual((home_of(shelf, 8), home_of(shelf, 2), free_homes(shelf)), (10, 12, (11, 13)))
        self.assertEqual((home_of(UNDER_WAY, 8), home_of(UNDER_WAY, 2), free_homes(UNDER_WAY)), (10, 12, (11, 13)))
        for shelf in SHELVES:
            self.assertEqual((piece_of(shelf, 8), piece_of(shelf, 2)), ((3, 0), (5,)))
            for chunk in (1, 3, 7, 9, 10, 11, 99, 10 ** 300):
                self.assertIsNone(piece_of(shelf, chunk))
                self.assertIsNone(home_of(shelf, chunk))
        self.assertEqual(self.by_name(piece_of, disk=QUIET, chunk=8), (3, 0))
        self.assertEqual(self.by_name(home_of, disk=QUIET, chunk=8), 10)
        self.assertEqual(self.by_name(free_homes, disk=fresh_disk(60)), tuple(range(10, 70)))
        self.assertEqual(free_homes(disk_of((), (), ((), (1, 1)))), ())


class Batches(Told):

    def test_put(self):
        for shelf in SHELVES:
            self.assertEqual(put_batch(shelf, 8, (1, 1)), ((10, (8, 1, 1)),))
            self.assertEqual(put_batch(shelf, 2, (0,) * 9), ((12, (2,) + (0,) * 9),))
            self.assertEqual(put_batch(shelf, 5, (1,)), ((11, (5, 1)),))
        self.assertEqual(self.by_name(put_batch, disk=QUIET, chunk=10 ** 300, piece=(10 ** 300,)),
                         ((11, (10 ** 300,) * 2),))
        self.assertEqual(put_batch(disk_of((1,), ((10,),), ((), (1, 1), (2, 2))), 3, (3,)), ((10, (3, 3)),))
        self.assertEqual(put_batch(disk_of((), ((10,),), ((), (1, 1), ())), 3, (3,)), ((11, (3, 3)),))

    def test_drop_and_root(self):
        for shelf in SHELVES:
            self.assertEqual(drop_batch(shelf, 8), ((10, ()),))
            self.assertEqual(self.by_name(drop_batch, disk=shelf, chunk=2), ((12, ()),))
            for root in ROOTS:
                self.assertEqual(self.by_name(root_batch, disk=shelf, root=root), ((9, root),))

    def test_full_and_not_held(self):
        full = disk_of((), (), ((), (1, 1), (2, 2)))
        slotted = disk_of((1,), ((11, 2, 2),), ((), (1, 1), None))
        for shelf in (full, slotted):
            for chunk in (3, 4, 10 ** 300):
                self.given(Full, chunk, put_batch, shelf, chunk, (5,))
                self.given(NotHeld, chunk, drop_batch, shelf, chunk)
            self.assertEqual(put_batch(shelf, 2, (5,)), ((11, (2, 5)),))
        self.given(NotHeld, 1, drop_batch, fresh_disk(60), 1)
        self.tells(Full, ("given", 3), put_batch, disk=full, chunk=3, piece=(1,))
        self.tells(NotHeld, ("given", 3), drop_batch, disk=full, chunk=3)

    def test_run_whole(self):
        for disk in SHELVES:
            root, pieces = shelf_meaning(disk)
            shelf = mended_disk(disk)
            for chunk in (2, 5, 8):
                after = run_writes(shelf, batch_steps(shelf, put_batch(shelf, chunk, (6, 6))), 4, False)
                self.assertIs(is_shelf(after) and is_quiet(after), True)
                told = dict(pieces)
                told[chunk] = (6, 6)
                self.assertEqual(shelf_meaning(after), (root, tuple(sorted(told.items()))))
                self.assertEqual(contents(after)[0], root)
            for chunk in (2, 8):
                after = run_writes(shelf, batch_steps(shelf, drop_batch(shelf, chunk)), 4, False)
                self.assertEqual(shelf_meaning(after), (root, tuple(pair for pair in pieces if pair[0] != chunk)))
            for other in ROOTS:
                after = run_writes(shelf, batch_steps(shelf, root_batch(shelf, other)), 4, False)
                self.assertEqual(shelf_meaning(after), (other, pieces))


class Wrong(Told):

    def test_disks(self):
        no_shelves = (disk_of((), (), ((1,), ())), disk_of((), (), ((), (1,))), disk_of((), (), ((), (1, 1), (1, 2))))
        for value in WRONG_DISKS + NOT_SOUND + no_shelves:
            for function, more in ((shelf_meaning, ()), (shelf_root, ()), (held, ()), (free_homes, ()),
                                   (piece_of, (1,)), (home_of, (1,)), (put_batch, (1, (1,))), (drop_batch, (1,)),
                                   (root_batch, ((1, 1, 1),))):
                self.given(InvalidDisk, value, function, value, *more)

    def test_chunks_pieces_roots(self):
        for value in ODD + (0, -1, -10 ** 30):
            self.given(InvalidChunk, value, piece_of, QUIET, value)
            self.given(InvalidChunk, value, home_of, QUIET, value)
            self.given(InvalidChunk, value, put_batch, QUIET, value, (1,))
            self.given(InvalidChunk, value, drop_batch, QUIET, value)
        for value in NO_PIECES:
            self.given(InvalidPiece, value, put_batch, QUIET, 8, value)
            self.given(InvalidPiece, value, put_batch, disk_of((), (), ((), (1, 1))), 2, value)
        for value in NO_ROOTS + ODD + ((),):
            self.given(InvalidRoot, value, root_batch, QUIET, value)

    def test_order(self):
        bad = QUIET[:9]
        for function in (piece_of, home_of):
            self.in_order(function, (("disk", QUIET, bad, InvalidDisk, "given"),
                                     ("chunk", 1, 0, InvalidChunk, "given")))
        self.in_order(put_batch, (("disk", QUIET, bad, InvalidDisk, "given"), ("chunk", 1, 0, InvalidChunk, "given"),
                                  ("piece", (1,), (), InvalidPiece, "given")))
        self.in_order(drop_batch, (("disk", QUIET, bad, InvalidDisk, "given"), ("chunk", 2, 0, InvalidChunk, "given")))
        self.in_order(root_batch, (("disk", QUIET, bad, InvalidDisk, "given"),
                                   ("root", (1, 1, 1), (), InvalidRoot, "given")))
