"""What shelves come to: points 23 and 24 and the heading lettermend/shelfruns.py."""

import itertools

from lettermend.disks import fresh_disk, run_writes
from lettermend.errors import InvalidDeed, InvalidDisk, InvalidHistory, InvalidHomes, InvalidMeaning
from lettermend.journals import batch_steps, disk_mending, mended_disk
from lettermend.shelfruns import shelf_after, shelf_batch, shelf_told
from lettermend.shelves import free_homes, home_of, is_shelf, shelf_meaning
from tests.support import ODD, Told
from tests.test_histories import WRONG_COUNTS, WRONG_TORN
from tests.test_journals import NOT_SOUND, WRONG_DISKS, disk_of
from tests.test_shelves import LONGEST, NO_PIECES, NO_ROOTS, QUIET, SHELVES, UNDER_WAY

DEEDS = (("put", 2, (1, 1)), ("put", 8, (7,)), ("put", 5, (0,)), ("put", 6, (3,) * 9), ("drop", 2), ("drop", 8),
         ("drop", 5), ("root", (3, 1, 1)), ("root", LONGEST))
FULL_ONE = disk_of((1,), ((10, 2, 4),), ((1, 1, 9), None))
EMPTY_ONE, TWO_HOMES = fresh_disk(1), disk_of((), (None, (3,)), ((), (), (5, 5)))
DISKS = (QUIET, UNDER_WAY, FULL_ONE, EMPTY_ONE, TWO_HOMES, fresh_disk(60)) + SHELVES[2:]


def slow_batch(disk, deed):
    """The deed's batch, () for none, by the words of point 23."""
    if deed[0] == "root":
        return ((9, deed[1]),)
    home = home_of(disk, deed[1])
    if deed[0] == "drop":
        return () if home is None else ((home, ()),)
    if home is None:
        free = free_homes(disk)
        if not free:
            return ()
        home = free[0]
    return ((home, (deed[1],) + deed[2]),)


def slow_after(disk, history):
    """The disk after a shelf's history, by the words of point 24."""
    for deed, count, torn in history:
        if deed == "mend":
            disk = run_writes(disk, disk_mending(disk), count, torn)
            continue
        disk = mended_disk(disk)
        batch = slow_batch(disk, deed)
        if batch:
            disk = run_writes(disk, batch_steps(disk, batch), count, torn)
    return disk


def slow_told(meaning, homes, history):
    """The meaning after a shelf's history, by the words of point 24."""
    root, pieces = meaning[0], dict(meaning[1])
    for deed, count, _ in history:
        if deed == "mend" or count <= 1:
            continue
        if deed[0] == "root":
            root = deed[1]
        elif deed[0] == "drop":
            pieces.pop(deed[1], None)
        elif deed[1] in pieces or len(pieces) != homes:
            pieces[deed[1]] = deed[2]
    return root, tuple(sorted(pieces.items()))


class Batches(Told):

    def test_by_words(self):
        for disk in DISKS:
            for deed in DEEDS:
                self.assertEqual(shelf_batch(disk, deed), slow_batch(disk, deed))
        self.assertEqual(shelf_batch(FULL_ONE, ("put", 5, (1,))), ())
        self.assertEqual(shelf_batch(FULL_ONE, ("put", 2, (1,))), ((10, (2, 1)),))
        self.assertEqual(shelf_batch(FULL_ONE, ("drop", 5)), ())
        self.assertEqual(self.by_name(shelf_batch, disk=FULL_ONE, deed=("root", (3, 1, 1))), ((9, (3, 1, 1)),))

    def test_run_whole(self):
        for disk in DISKS:
            shelf = mended_disk(disk)
            for deed in DEEDS:
                batch = shelf_batch(shelf, deed)
                if batch:
                    after = run_writes(shelf, batch_steps(shelf, batch), 4, False)
                    self.assertIs(is_shelf(after), True)
                    self.assertEqual(shelf_meaning(after),
                                     slow_told(shelf_meaning(shelf), len(disk) - 10, ((deed, 4, False),)))


class Histories(Told):

    def same(self, disk, history):
        """The disk and its meaning after the history are what the words tell."""
        after = shelf_after(disk, history)
        self.assertEqual(after, slow_after(disk, history))
        self.assertIs(is_shelf(after), True)
        told = shelf_told(shelf_meaning(disk), len(disk) - 10, history)
        self.assertEqual(shelf_meaning(after), told)
        self.assertEqual(told, slow_told(shelf_meaning(disk), len(disk) - 10, history))

    def test_each_event_cut_anywhere(self):
        for disk in DISKS:
            self.same(disk, ())
            for deed in DEEDS + ("mend",):
                for count in (0, 1, 2, 3, 4, 5, 10 ** 30):
                    self.same(disk, ((deed, count, False),))
                    self.same(disk, ((deed, count, True),))

    def test_two_and_three_events(self):
        events = [(deed, count, count % 2 == 0) for deed in DEEDS + ("mend",) for count in range(5)]
        for disk in (QUIET, FULL_ONE, EMPTY_ONE, TWO_HOMES):
            for history in itertools.product(events, repeat=2):
                self.same(disk, history)
        for history in itertools.product(events[::4], repeat=3):
            self.same(TWO_HOMES, history)

    def test_forty_events(self):
        events = [(deed, count, torn) for deed in DEEDS + ("mend",) for count in range(6) for torn in (False, True)]
        for start in range(50):
            for disk in DISKS:
                self.same(disk, tuple(events[(start * 37 + at * (2 * start + 3) + at * at) % len(events)]
                                      for at in range(40)))

    def test_counts_that_count(self):
        for torn in (False, True):
            for count in range(6):
                told = shelf_told(((), ()), 1, ((("put", 3, (4,)), count, torn), (("put", 7, (4,)), 4, torn)))
                self.assertEqual(told, ((), ((3, (4,)),) if count > 1 else ((7, (4,)),)))
        self.assertEqual(shelf_told(((), ((3, (4,)),)), 1, ((("put", 7, (4,)), 4, True),)), ((), ((3, (4,)),)))
        self.assertEqual(shelf_told(((), ((3, (4,)),)), 2, ((("put", 1, (4,)), 4, True),)),
                         ((), ((1, (4,)), (3, (4,)))))

    def test_a_deed_without_a_batch_mends(self):
        after = shelf_after(FULL_ONE, ((("put", 5, (1,)), 4, False),))
        self.assertEqual(after, mended_disk(FULL_ONE))
        self.assertEqual(shelf_after(FULL_ONE, ((("drop", 5), 0, True),)), after)
        self.assertNotEqual(shelf_after(FULL_ONE, ((("drop", 2), 0, True),)), after)

    def test_by_name(self):
        self.assertEqual(self.by_name(shelf_after, disk=EMPTY_ONE, history=((("put", 3, (4,)), 9, True),))[10], (3, 4))
        self.assertEqual(self.by_name(shelf_told, meaning=((1, 1, 1), ()), homes=60, history=()), ((1, 1, 1), ()))


class Wrong(Told):

    def test_disks(self):
        for value in WRONG_DISKS + NOT_SOUND + (disk_of((), (), ((1,), ())), disk_of((), (), ((), (1, 1), (1, 2)))):
            self.given(InvalidDisk, value, shelf_batch, value, ("drop", 1))
            self.given(InvalidDisk, value, shelf_after, value, ())

    def wrong_history(self, history):
        """Neither function takes the history."""
        self.given(InvalidHistory, history, shelf_after, QUIET, history)
        self.given(InvalidHistory, history, shelf_told, ((), ()), 3, history)

    def test_deeds(self):
        wrong = list(ODD) + [5, (), "mend", ("put",), ("put", 1), ("put", 1, (1,), 1), ("drop", 1, (1,)), ("drop",),
                             ("root",), ("root", (1, 1, 1), 1), ["put", 1, (1,)], ["drop", 1], ("root", ()),
                             ("Put", 1, (1,)), ("drop", (1, 1, 1)), ("root", 1), ("put", (1,), 1), ("mend", 1)]
        wrong += [(word, 1, (1,)) for word in ODD] + [(word, 1) for word in ODD] + [(word, (1, 1, 1)) for word in ODD]
        wrong += [("put", chunk, (1,)) for chunk in ODD + (0, -1)] + [("drop", chunk) for chunk in ODD + (0, -1)]
        wrong += [("put", 1, piece) for piece in NO_PIECES] + [("root", root) for root in NO_ROOTS + ODD]
        for deed in wrong:
            self.given(InvalidDeed, deed, shelf_batch, QUIET, deed)
            if not isinstance(deed, str) or deed != "mend":
                self.wrong_history(((deed, 4, False),))
                self.wrong_history((("mend", 0, False), (deed, 4, False)))
        for deed in DEEDS:
            shelf_batch(QUIET, deed)

    def test_histories(self):
        event = (("drop", 1), 0, False)
        for value in ODD + (5, event, [event], (event,) * 41, ((),), "mend", ("mend", 0, False), {1: event}):
            self.wrong_history(value)
        for value in ODD + ((), (("drop", 1), 0), (("drop", 1), 0, False, 0), [("drop", 1), 0, False],
                            ("drop", 1, 0, False), ("Mend", 0, False), ("mend", 0), ("mend", 0, False, 0)):
            self.wrong_history((value,))
        for value in WRONG_COUNTS:
            self.wrong_history((event, (("drop", 1), value, False)))
            self.wrong_history((event, ("mend", value, False)))
        for value in WRONG_TORN:
            self.wrong_history((event, (("drop", 1), 0, value)))
            self.wrong_history((event, ("mend", 0, value)))
        self.assertEqual(shelf_after(QUIET, (event,) * 40), QUIET)

    def test_meanings(self):
        pair = (1, (1,))
        wrong = list(ODD) + [5, (), ((),), ((), (), ()), [(), ()], ((), [pair]), ((), pair), ((), (pair, pair)),
                             ((), ((2, (1,)), pair)), ((), (pair, (1, (2,)))), ((), ((0, (1,)),)), ((), ((1,),)),
                             ((), ((1, (1,), 1),)), ((), ([1, (1,)],)), ((), ((True, (1,)),)), ((), (("1", (1,)),)),
                             ((), ((-1, (1,)),)), ((), tuple((at, (1,)) for at in range(1, 62)))]
        wrong += [(root, ()) for root in NO_ROOTS + ODD] + [((), pairs) for pairs in ODD]
        wrong += [((), ((1, piece),)) for piece in NO_PIECES] + [((), (value,)) for value in ODD]
        for value in wrong:
            self.given(InvalidMeaning, value, shelf_told, value, 60, ())
        most = (LONGEST, tuple((at, (1,) * 9) for at in range(1, 61)))
        self.assertEqual(shelf_told(most, 60, ()), most)

    def test_homes(self):
        three = ((), ((1, (1,)), (2, (1,)), (4, (1,))))
        for value in ODD + (-1, 0, 61, 10 ** 30):
            self.given(InvalidHomes, value, shelf_told, ((), ()), value, ())
            self.given(InvalidHomes, value, shelf_told, three, value, ())
        for value in (1, 2):
            self.given(InvalidHomes, value, shelf_told, three, value, ())
        self.assertEqual(shelf_told(three, 3, ()), three)

    def test_order(self):
        self.in_order(shelf_batch, (("disk", QUIET, QUIET[:5], InvalidDisk, "given"),
                                    ("deed", DEEDS[0], DEEDS[0][:1], InvalidDeed, "given")))
        self.in_order(shelf_after, (("disk", QUIET, QUIET[:5], InvalidDisk, "given"),
                                    ("history", (), [], InvalidHistory, "given")))
        self.in_order(shelf_told, (("meaning", ((), ()), ((),), InvalidMeaning, "given"),
                                   ("homes", 1, 0, InvalidHomes, "given"),
                                   ("history", (), [], InvalidHistory, "given")))
