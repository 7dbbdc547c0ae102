"""Histories of a disk: point 20 and the heading lettermend/histories.py."""

import itertools

from lettermend.disks import fresh_disk, run_writes
from lettermend.errors import InvalidContents, InvalidDisk, InvalidHistory
from lettermend.histories import after_history, told_contents
from lettermend.journals import batch_steps, contents, disk_mending, is_quiet, is_sound, mended_disk
from tests.support import ODD, Told
from tests.test_journals import FULL, NOT_SOUND, SOUND, WRONG_DISKS, disk_of

ONE, TWO = ((10, (5,)),), ((9, (7,)), (10, ()))
EIGHT = tuple((10 + at, (at, at)) for at in range(8))
WRONG_BATCHES = ODD + ((), ONE + ONE, ((8, ()),), ((0, (1,)),), [ONE[0]], ONE[0], ((9, ()), (10, ()), (9, (1,))),
                       ((10, None),), ((10, (0,) * 81),), ((10, [1]),), ((10, (-1,)),), ((True, ()),),
                       tuple((9 + at, ()) for at in range(9)))
WRONG_COUNTS = ODD + (-1, -10 ** 30)
WRONG_TORN = tuple(value for value in ODD if value is not True and value is not False) + (0, 1, 2)


def slow_after(disk, history):
    """The disk after a history, event by event, by the words of point 20."""
    for event in history:
        if event[0] == "batch":
            disk = mended_disk(disk)
            writes = batch_steps(disk, event[1])
        else:
            writes = disk_mending(disk)
        disk = run_writes(disk, writes, event[-2], event[-1])
    return disk


def slow_told(told, history):
    """The contents after a history, by the words of point 20."""
    told = dict(enumerate(told, start=9))
    for event in history:
        if event[0] == "batch" and event[2] > len(event[1]):
            told.update(dict(event[1]))
    return tuple(told[place] for place in sorted(told))


def events_for(places):
    """Events with cuts at, below and above all that counts, for a disk of so many places."""
    events = [("mend", count, torn) for count in (0, 1, 2, 3, 10 ** 30) for torn in (False, True)]
    batches = [ONE, TWO] + ([EIGHT] if places >= 18 else [])
    for batch in batches:
        many = len(batch)
        for count in sorted({0, 1, many, many + 1, many + 2, 2 * many, 2 * many + 1, 2 * many + 2, 2 * many + 3}):
            events += [("batch", batch, count, torn) for torn in (False, True)]
    return events


class Histories(Told):

    def same(self, disk, history):
        """The disk and the contents after the history are what the words tell."""
        after = after_history(disk, history)
        self.assertEqual(after, slow_after(disk, history))
        self.assertIs(is_sound(after), True)
        told = told_contents(contents(disk), history)
        self.assertEqual(contents(after), told)
        self.assertEqual(told, slow_told(contents(disk), history))

    def test_no_event(self):
        for disk in SOUND:
            self.assertEqual(after_history(disk, ()), disk)
            self.assertEqual(told_contents(contents(disk), ()), contents(disk))

    def test_each_event(self):
        for disk in SOUND:
            for event in events_for(len(disk)):
                self.same(disk, (event,))

    def test_two_and_three_events(self):
        events = events_for(11)
        for history in itertools.product(events, repeat=2):
            self.same(SOUND[3], history)
        for history in itertools.product(events[::3], repeat=3):
            self.same(SOUND[0], history)
            self.same(SOUND[2], history)

    def test_forty_events(self):
        for disk in (fresh_disk(8), fresh_disk(60), SOUND[6]):
            events = events_for(len(disk))
            for start in range(60):
                history = tuple(events[(start * 31 + at * (2 * start + 1) + at * at) % len(events)] for at in range(40))
                self.same(disk, history)

    def test_the_counts_that_count(self):
        disk = disk_of((), (), ((1,), (2,), (3,)))
        for batch in (ONE, TWO, ((11, (9,)), (9, ()), (10, FULL))):
            many = len(batch)
            for torn in (False, True):
                for count in range(2 * many + 5):
                    history = (("batch", batch, count, torn),)
                    after = contents(after_history(disk, history))
                    blocks = [dict(batch).get(place, disk[place]) if count > many else disk[place]
                              for place in (9, 10, 11)]
                    self.assertEqual(after, tuple(blocks))
                    self.assertEqual(told_contents(disk[9:], history), tuple(blocks))

    def test_mended_before_a_batch(self):
        disk = disk_of((1,), ((11, 4),), ((), (), None))
        after = after_history(disk, (("batch", ONE, 0, False),))
        self.assertEqual(after, mended_disk(disk))
        self.assertEqual(after_history(disk, (("batch", ONE, 0, True),)), mended_disk(disk)[:1] + (None,) + after[2:])
        self.assertEqual(after_history(disk, (("mend", 0, True),)), disk)
        self.assertEqual(after_history(disk, (("mend", 1, True),)), (None,) + disk[1:11] + ((4,),))
        self.assertIs(is_quiet(after_history(disk, (("mend", 2, False),))), True)

    def test_by_name(self):
        history = (("batch", ONE, 4, False), ("mend", 0, True))
        self.assertEqual(self.by_name(after_history, disk=SOUND[0], history=history)[9:], ((), (5,)))
        self.assertEqual(self.by_name(told_contents, told=((1,), (2,)), history=history), ((1,), (5,)))
        self.assertEqual(told_contents(((0,) * 90,) * 2, (("batch", ONE, 2, True),)), ((0,) * 90, (5,)))
        self.assertEqual(len(told_contents(((),) * 61, (("batch", ((69, ()),), 2, True),))), 61)


class Wrong(Told):

    def wrong_history(self, history):
        """Neither function takes the history, for a disk of twelve places."""
        self.given(InvalidHistory, history, after_history, fresh_disk(2), history)
        self.given(InvalidHistory, history, told_contents, ((),) * 3, history)

    def test_disks_and_contents(self):
        for value in WRONG_DISKS + NOT_SOUND:
            self.given(InvalidDisk, value, after_history, value, ())
        for value in ODD + (5, (), ((),), ((),) * 62, [(), ()], ((), None), (None, ()), ((), [1]), ((), (-1,)),
                            ((), (True,)), ((), (0,) * 91), ((), 5), ((), ((),)), "ab", ("", "")):
            self.given(InvalidContents, value, told_contents, value, ())

    def test_histories(self):
        mend = ("mend", 0, False)
        for value in ODD + (5, mend, [mend], (mend,) * 41, ((),), "mend", ("mend",), {1: mend}):
            self.wrong_history(value)
        self.assertEqual(after_history(fresh_disk(2), (mend,) * 40), fresh_disk(2))
        self.assertEqual(told_contents(((),) * 3, (mend,) * 40), ((),) * 3)

    def test_events(self):
        wrong = list(ODD) + [5, (), ("mend", 0), ("mend", 0, False, 0), ["mend", 0, False], ("batch", ONE, 0),
                             ("batch", ONE, 0, False, 0), ["batch", ONE, 0, False], ("Mend", 0, False),
                             ("batch", 0, False), ("mend", ONE, 0, False), ("put", ONE, 0, False), ("", 0, False)]
        wrong += [(word, 0, False) for word in ODD] + [(word, ONE, 0, False) for word in ODD]
        wrong += [("mend", count, False) for count in WRONG_COUNTS] + [("mend", 0, torn) for torn in WRONG_TORN]
        wrong += [("batch", ONE, count, False) for count in WRONG_COUNTS]
        wrong += [("batch", ONE, 0, torn) for torn in WRONG_TORN]
        wrong += [("batch", batch, 0, False) for batch in WRONG_BATCHES]
        wrong += [("batch", ((12, ()),), 0, False), ("batch", ONE + ((12, ()),), 9, False)]
        right = ("batch", ONE, 1, True)
        for event in wrong:
            self.wrong_history((event,))
            self.wrong_history((right, event, right))
        self.wrong_history((right,) * 39 + (wrong[-1],))

    def test_places_of_this_disk_alone(self):
        history = (("batch", ((20, (1,)),), 3, False),)
        self.assertEqual(after_history(fresh_disk(11), history)[20], (1,))
        self.assertEqual(told_contents(((),) * 12, history)[11], (1,))
        self.given(InvalidHistory, history, after_history, fresh_disk(10), history)
        self.given(InvalidHistory, history, told_contents, ((),) * 11, history)

    def test_order(self):
        self.in_order(after_history, (("disk", fresh_disk(1), fresh_disk(1)[1:], InvalidDisk, "given"),
                                      ("history", (), [], InvalidHistory, "given")))
        self.in_order(told_contents, (("told", ((), ()), ((),), InvalidContents, "given"),
                                      ("history", (), [], InvalidHistory, "given")))
