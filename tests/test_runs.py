"""Runs: points 50 to 53 and the heading lettermend/runs.py."""

from lettermend.clustererrors import (InvalidCluster, InvalidEvent, InvalidEvents, InvalidRun, Lost, NotStanding,
                                      Standing)
from lettermend.clusters import cut_steps, done_steps, new_cluster, standing
from lettermend.errors import Full, NotHeld, NotMended, StoreError
from lettermend.harm import burnt, renewed, rotten
from lettermend.meanings import answer
from lettermend.mending import is_mended, mended_cluster, steps_to_mend
from lettermend.reading import holders, meaning, named
from lettermend.requests import decided_from, read, request_steps
from lettermend.runs import after_event, after_events, begin, is_held
from lettermend.schemes import room_of
from lettermend.shelves import held
from lettermend.trees import node_at, paths_of
from tests.harming import Dice, burn, full_one, harmed, hide_root, large_bases, litter, renew, small_bases
from tests.making import FOUR, ONES, SIX, TIGHT, rotten as spoilt, under_way, with_block, with_disk
from tests.slow import slow_lost, slow_mending, slow_survey
from tests.support import ODD, Told, rows_like
from tests.test_clusters import BURNT, NEW, NO_CLUSTERS
from tests.test_histories import WRONG_COUNTS, WRONG_TORN
from tests.test_requests import ROOMS, WIDE

MAKE = (0, 1, ("make", ("x",)))
JOIN = (0, 1, ("join", 5))
RUN = (WIDE, ((0, 1, 2, 3, 4), (), 0))


def slow_begun(cluster):
    """The run that begins from a mended cluster, by the words of point 51."""
    gone = tuple(shelf for shelf, disk in enumerate(cluster[2]) if disk is None)
    return cluster, (meaning(cluster)[1], gone, 0)


def slow_ledger(run, event, cluster):
    """The ledger behind an event that left this cluster, by the words of point 51."""
    lot, hurt, rots = run[1]
    if event[0] in ("request", "mend"):
        return slow_begun(cluster)[1]
    if meaning(cluster) is not None:
        lot = tuple(sorted({*lot, *meaning(cluster)[1]}))
    if event[0] == "burn":
        hurt = tuple(sorted({*hurt, event[1]}))
    return lot, hurt, rots + (event[0] == "rot")


def slow_after(cluster, event):
    """The reply to an event and the cluster behind it, by the words of point 50."""
    word, rest = event[0], event[1:]
    if word == "request":
        reply, steps = request_steps(cluster, rest[0])
        return reply, done_steps(cluster, steps)
    if word == "cut":
        return None, cut_steps(cluster, request_steps(cluster, rest[0])[1], rest[1], rest[2])
    if word == "mend":
        return None, mended_cluster(cluster)
    if word == "cut mend":
        return None, cut_steps(cluster, steps_to_mend(cluster), rest[0], rest[1])
    function = {"burn": burnt, "renew": renewed, "rot": rotten}[word]
    return None, function(cluster, *rest)


class Kinds(Told):

    def test_no_runs(self):
        wrong = list(ODD) + [5, (), (WIDE,), RUN + (1,), list(RUN), WIDE, (WIDE, ()), (WIDE, ((), (), 0, 0)),
                             (WIDE, ((), ())), (WIDE, [(), (), 0])]
        wrong += [(value, RUN[1]) for value in NO_CLUSTERS]
        for lot in ODD + (5, [0, 1], (1, 0), (0, 0), (0, 6), (-1, 0), (0, True), (0, "1"), (0, 10 ** 30), (0,) * 4000):
            wrong += [(WIDE, (lot, (), 0)), (WIDE, ((), lot, 0))]
        wrong += [(WIDE, ((), (), rots)) for rots in ODD + (-1, -10 ** 30)]
        for value in wrong:
            self.given(InvalidRun, value, after_event, value, ("mend",))
            self.given(InvalidRun, value, after_events, value, ())
            self.given(InvalidRun, value, is_held, value)

    def test_ledgers_of_all_kinds(self):
        for lot in ((), (0,), (5,), (0, 1, 2, 3, 4, 5)):
            for hurt in ((), (2,), (0, 5), (0, 1, 2, 3, 4, 5)):
                for rots in (0, 1, 2, 10 ** 300):
                    told = 2 * rots + sum(shelf in hurt for shelf in lot)
                    self.assertIs(is_held((WIDE, (lot, hurt, rots))), told <= 2)
        for cluster, most in ((new_cluster(TIGHT, 5, (0, 1, 2, 3, 4), 20), 2), (new_cluster(ONES, 8, tuple(range(9)), 20), 7),
                              (new_cluster(ONES, 7, tuple(range(9)), 20), 6), (new_cluster(FOUR, 4, (0, 1, 2, 3), 9), 1)):
            lot = tuple(range(cluster[0][2]))
            for many in range(len(lot) + 1):
                for rots in range(5):
                    self.assertIs(is_held((cluster, (lot, lot[:many], rots))), many + 2 * rots <= most)
        self.assertIs(self.by_name(is_held, run=RUN), True)

    def test_no_events(self):
        wrong = list(ODD) + [5, (), ("request",), ("request", MAKE, 1), ["request", MAKE], "mend", ("mend", 1),
                             ("mend", 1, True), ("Mend",), ("cut", MAKE), ("cut", MAKE, 1), ("cut", MAKE, 1, True, 1),
                             ("cut mend",), ("cut mend", 1), ("cut mend", 1, True, 1), ("burn",), ("burn", 1, 1),
                             ("renew",), ("renew", 0, 0), ("rot", 0, 1), ("rot", 0, 1, (0, 0, 0), 1), ("new", 0),
                             ("Rot", 0, 1, (0, 0, 0)), ("new", 0, 1, (0, 0, 0)), ("", 0, 1, (0, 0, 0)),
                             ("send", 0), ("", 1), ("request", (0, 0, MAKE[2])), ("request", (8, 1, MAKE[2])),
                             ("request", (0, 1, ("put", ("a",), (31,)))), ("request", (0, 1, ("join", 6))),
                             ("request", (0, 1, ("read", ("a",)))), ("rot", 0, 1, (0, 0)), ("rot", 0, 1, (0, 0, 31)),
                             ("rot", 0, 1, [0, 0, 0]), ("rot", 0, 1, (0, 0, 0, 0)), ("rot", 0, 0, (0, 0, 0)),
                             ("rot", 6, 1, (0, 0, 0)), ("rot", -1, 1, (0, 0, 0)), ("burn", 6), ("burn", -1),
                             ("renew", 6), ("renew", 10 ** 30), ("burn", (0,)), ("request", None)]
        wrong += [(value, 0) for value in ODD] + [("burn", value) for value in ODD] + [(value,) for value in ODD]
        wrong += [("renew", value) for value in ODD] + [("request", value) for value in ODD]
        wrong += [("rot", value, 1, (0, 0, 0)) for value in ODD] + [("rot", 0, value, (0, 0, 0)) for value in ODD]
        wrong += [("rot", 0, 1, value) for value in ODD] + [("cut", value, 1, True) for value in ODD]
        wrong += [("cut", MAKE, value, True) for value in WRONG_COUNTS] + [("cut mend", value, True)
                                                                          for value in WRONG_COUNTS]
        wrong += [("cut", MAKE, 1, value) for value in WRONG_TORN] + [("cut mend", 1, value) for value in WRONG_TORN]
        for value in wrong:
            self.given(InvalidEvent, value, after_event, RUN, value)
            for rows, index in (((value,), 0), ((("mend",), value, value), 1)):
                self.index(InvalidEvents, index, after_events, RUN, rows)

    def test_no_events_of_many(self):
        mend = ("mend",)
        for value in tuple(value for value in ODD if not isinstance(value, tuple)) + (5, [mend], (mend,) * 41, [],
                                                                                      (mend,) * 4000, {mend: 1}):
            self.index(InvalidEvents, None, after_events, RUN, value)
        self.index(InvalidEvents, 39, after_events, RUN, (mend,) * 39 + (("mend", 1),))
        self.index(InvalidEvents, 0, after_events, RUN, mend)
        self.assertEqual(after_events(RUN, (mend,) * 40), ((None,) * 40, RUN))
        # No event is done if a later one is none.
        self.index(InvalidEvents, 1, after_events, RUN, (("renew", 0), ("burn", 9)))
        for function, wrong, error, told in ((after_event, (), InvalidEvent, "given"),
                                             (after_events, [], InvalidEvents, None)):
            name = "event" if function == after_event else "events"
            self.in_order(function, (("run", RUN, RUN[:1], InvalidRun, "given"),
                                     (name, mend if name == "event" else (mend,), wrong, error, told)))


class Begun(Told):

    def test_a_mended_cluster(self):
        for cluster in list(small_bases()) + list(large_bases()) + [burn(WIDE, 5), burn(WIDE, 2), burn(WIDE, 0, 3),
                                                                   ROOMS, NEW]:
            run = begin(cluster)
            self.assertEqual(run, slow_begun(cluster))
            gone = [shelf for shelf in run[1][1] if shelf in run[1][0]]
            self.assertIs(is_held(run), len(gone) <= cluster[1] - cluster[0][3])
        self.assertEqual(self.by_name(begin, cluster=burn(WIDE, 5, 1)), (burn(WIDE, 5, 1), ((0, 1, 2, 3, 4), (1, 5), 0)))

    def test_errors(self):
        for value in NO_CLUSTERS:
            self.given(InvalidCluster, value, begin, value)
        for cluster in [BURNT, burn(NEW, 0, 1), litter(NEW, 1, 1), hide_root(NEW, 1, ()), with_block(NEW, 0, 0, None),
                        full_one()[0]] + list(harmed(small_bases(), 2, 4)):
            lost, given = slow_lost(cluster)
            phases, end, _ = (None, None, None) if lost else slow_mending(cluster)
            if lost:
                self.like(Lost, given, begin, cluster)
            elif end is None:
                self.like(Full, phases, begin, cluster)
            elif any(phases):
                self.like(NotMended, sum(phases, ())[0], begin, cluster)
            else:
                self.assertEqual(begin(cluster), slow_begun(cluster))


class Events(Told):

    def same(self, run, event):
        """The event does what the words tell; what it leaves is told."""
        reply, cluster = slow_after(run[0], event)
        found = after_event(run, event)
        self.assertEqual(found, (reply, (cluster, slow_ledger(run, event, cluster))))
        return found

    def test_each(self):
        piece = (0, 0, 0)
        starts = [begin(WIDE), begin(ROOMS), (burn(WIDE, 3), ((0, 2), (1, 3), 2)), (WIDE, ((5,), (0, 5), 1)),
                  begin(burn(WIDE, 5, 0))]
        for run in starts:
            for event in (("request", MAKE), ("cut", MAKE, 0, False), ("cut", MAKE, 70, True), ("cut", MAKE, 10 ** 9, True),
                          ("request", (0, 9, MAKE[2])), ("cut", (0, 9, MAKE[2]), 3, True), ("mend",),
                          ("cut mend", 0, True), ("cut mend", 10 ** 30, False), ("burn", 1)):
                self.same(run, event)
            self.same(run, ("rot", 2, held(run[0][2][2])[1], piece))
            for shelf, disk in enumerate(run[0][2]):
                self.same(run, ("renew" if disk is None else "burn", shelf))
        lame = renew(burn(WIDE, 1, 3), 1, 3)
        many = len(steps_to_mend(lame))
        self.assertEqual(many, 32)
        for run in ((lame, ((0, 1, 2, 3, 4), (1, 3), 0)), (with_block(lame, 0, 0, None), ((), (), 4))):
            self.same(run, ("mend",))
            for count in range(many + 2):
                for torn in (False, True):
                    self.same(run, ("cut mend", count, torn))

    def test_replies(self):
        replies, run = after_events(RUN, (("request", MAKE), ("cut", (0, 2, ("make", ("y",))), 5, True), ("mend",),
                                          ("request", MAKE), ("request", (0, 2, ("make", ("x",)))), ("burn", 5),
                                          ("request", (1, 1, ("join", 5))), ("request", (1, 3, ("join", 5)))))
        self.assertEqual(replies, ("done", None, None, "done", "taken", None, "down", "early"))
        self.assertEqual(run[1], ((0, 1, 2, 3, 4), (5,), 0))
        self.assertEqual(self.by_name(after_events, run=RUN, events=()), ((), RUN))
        self.assertEqual(self.by_name(after_event, run=RUN, event=("request", MAKE))[0], "done")

    def test_ledgers(self):
        run = begin(ROOMS)
        self.assertEqual(run[1], ((0, 1, 2, 3, 4), (), 0))
        steps = request_steps(ROOMS, (0, 5, ("join", 5)))[1]
        decides = decided_from(ROOMS, (0, 5, ("join", 5)))
        ahead = self.same(run, ("cut", (0, 5, ("join", 5)), decides - 1, True))[1]
        self.assertEqual(ahead[1][0], (0, 1, 2, 3, 4))
        behind = self.same(run, ("cut", (0, 5, ("join", 5)), decides, False))[1]
        self.assertEqual(behind[1], ((0, 1, 2, 3, 4, 5), (), 0))
        whole = self.same(run, ("cut", (0, 5, ("join", 5)), len(steps), False))[1]
        self.assertIs(is_mended(whole[0]), True)
        left = self.same(whole, ("cut", (0, 6, ("leave", 0)), 10 ** 9, False))[1]
        # A cut, even of all steps, forgets nothing; neither does a mending that is cut behind all of its steps.
        self.assertEqual((left[1][0], meaning(left[0])[1]), ((0, 1, 2, 3, 4, 5), (1, 2, 3, 4, 5)))
        again = self.same(self.same(left, ("burn", 2))[1], ("renew", 2))[1]
        self.assertEqual(again[1], ((0, 1, 2, 3, 4, 5), (2,), 0))
        more = self.same(again, ("cut mend", 10 ** 9, False))[1]
        self.assertIs(is_mended(more[0]), True)
        self.assertEqual(more[1], again[1])
        self.assertEqual(self.same(more, ("mend",))[1][1], ((1, 2, 3, 4, 5), (), 0))
        self.assertEqual(self.same(more, ("request", (0, 6, ("leave", 0))))[1][1], ((1, 2, 3, 4, 5), (), 0))
        self.assertEqual(self.same(more, ("burn", 0))[1][1], ((0, 1, 2, 3, 4, 5), (0, 2), 0))
        self.assertEqual(self.same(self.same(more, ("burn", 0))[1], ("mend",))[1][1], ((1, 2, 3, 4, 5), (0,), 0))

    def test_a_ledger_of_what_is_lost(self):
        run = begin(WIDE)
        for shelf in (0, 1, 2):
            self.assertIs(is_held(run), True)
            run = self.same(run, ("burn", shelf))[1]
        self.assertEqual(run[1], ((0, 1, 2, 3, 4), (0, 1, 2), 0))
        self.assertIs(is_held(run), False)
        self.assertIsNone(meaning(run[0]))
        run = (run[0], ((5,), (), 0))
        self.assertEqual(self.same(run, ("renew", 0))[1][1], ((5,), (), 0))
        self.assertEqual(self.same(run, ("burn", 5))[1][1], ((5,), (5,), 0))

    def test_held_and_no_more(self):
        rot = ("rot", 0, 1, (1, 1, 1))
        for events, held_ones in (((rot,), 1), ((rot, rot), 1), ((("burn", 1), ("burn", 2), ("burn", 3)), 2),
                                  ((("burn", 5), rot), 2), ((("burn", 5), ("burn", 4), ("burn", 3), ("burn", 2)), 3),
                                  ((("burn", 3), ("renew", 3), ("burn", 3), ("renew", 3), ("burn", 2)), 5),
                                  ((("burn", 3), ("renew", 3), ("mend",), ("burn", 2), ("mend",), ("burn", 1)), 6),
                                  ((("burn", 3), rot, ("renew", 3)), 1), ((rot, ("burn", 5), ("burn", 4)), 2)):
            run, many = begin(WIDE), 0
            for event in events:
                run = self.same(run, event)[1]
                if not is_held(run):
                    break
                many += 1
            self.assertEqual(many, held_ones, events)

    def test_errors_of_what_is_done(self):
        lame, heady = burn(WIDE, 3), with_disk(WIDE, 1, under_way(WIDE[2][1]))
        ledger = RUN[1]
        for cluster, event, error, given in (
                (lame, ("burn", 3), NotStanding, 3), (lame, ("renew", 2), Standing, 2),
                (lame, ("rot", 3, 1, (0, 0, 0)), NotStanding, 3), (heady, ("rot", 1, 99, (0, 0, 0)), NotMended, (3,)),
                (lame, ("rot", 2, 99, (0, 0, 0)), NotHeld, 99), (BURNT, ("mend",), Lost, None),
                (BURNT, ("cut mend", 0, True), Lost, None), (BURNT, ("request", MAKE), Lost, None),
                (BURNT, ("cut", MAKE, 0, True), Lost, None), (full_one()[0], ("mend",), Full, full_one()[1]),
                (full_one()[0], ("cut mend", 0, False), Full, full_one()[1]),
                (full_one()[0], ("request", MAKE), Full, full_one()[1]),
                (full_one()[0], ("cut", MAKE, 0, True), Full, full_one()[1]),
                (heady, ("request", MAKE), NotMended, (1, 9, WIDE[2][1][9])),
                (heady, ("cut", MAKE, 1, True), NotMended, (1, 9, WIDE[2][1][9]))):
            self.like(error, given, after_event, (cluster, ledger if cluster != BURNT else ((), (), 0)), event)
            events = (event, ("burn", 0), ("burn", 0))
            self.like(error, given, after_events, (cluster, ledger if cluster != BURNT else ((), (), 0)), events)
        self.like(NotStanding, 0, after_events, RUN, (("burn", 0), ("mend",), ("burn", 0), ("renew", 1)))


class Plain:
    """A plain store beside a run: the meanings that its cluster may have, and the one that it had last."""

    def __init__(self, cluster):
        self.width = cluster[1]
        self.now = meaning(cluster)
        self.may = [self.now]

    def event(self, test, event, reply, cluster):
        """Follows the event; the cluster means one of what it may."""
        if event[0] in ("request", "cut"):
            # Only mended clusters are asked, and what such a one means stays.
            told, behind = answer(self.now, self.width, event[1])
            self.may = [self.now, behind] if event[0] == "cut" else [behind]
            if event[0] == "request":
                test.assertIn(reply, (told, "down", "full"))
                self.may = [self.now] if reply in ("down", "full") else self.may
        self.now = meaning(cluster)
        if event[0] == "mend":
            test.assertIn(self.now, self.may)
            self.may = [self.now]
        return self.now


class Rows(Told):

    DEEDS = (("make", ("a",)), ("put", ("a", "x"), (1, 2, 3)), ("put", ("b",), tuple(range(13))), ("remove", ("a",)),
             ("copy", ("b",), ("a", "y")), ("move", ("b",), ("c",)), ("put", ("b",), ()), ("make", ("c", "d")))

    def event_for(self, run, dice, rots):
        """An event that may come next; a request is asked of a mended cluster alone."""
        cluster = run[0]
        many, up = len(cluster[2]), standing(cluster)
        kind = dice.below(12)
        marks = dict((mark[0], mark[1]) for mark in meaning(cluster)[2]) if meaning(cluster) else {}
        client = dice.below(3)
        deeds = self.DEEDS + tuple((word, dice.below(many)) for word in ("join", "leave"))
        request = (client, marks.get(client, 0) + (1 if dice.below(6) else 0) or 1, dice.one_of(deeds))
        if is_mended(cluster) and kind < 5:
            return ("request", request) if kind < 3 else ("cut", request, dice.below(240), dice.below(2) == 1)
        if kind == 5 and meaning(cluster) is not None:
            return "cut mend", dice.below(40), dice.below(2) == 1
        if kind in (6, 7) and up:
            return "burn", dice.one_of(up)
        if kind == 8 and len(up) < many:
            return "renew", dice.one_of([shelf for shelf in range(many) if shelf not in up])
        if kind == 9 and rots and up:
            shelf = dice.one_of(up)
            here = held(cluster[2][shelf])
            if here and cluster[2][shelf][0] == ():
                chunk = dice.one_of(here)
                return "rot", shelf, chunk, rows_like(cluster[0][0], room_of(cluster[0]), chunk + dice.below(9))
        return ("mend",)

    def test_main_promise(self):
        # A run that is held after each event means what its whole requests made, or that with the cut one done, too.
        many = {}
        for at, (scheme, width, used) in enumerate(((SIX, 5, (0, 1, 2, 3, 4)), (SIX, 4, (0, 1, 2, 3, 5)),
                                                    (TIGHT, 5, (0, 1, 2, 3, 4)), (ONES, 7, tuple(range(8))),
                                                    ((31, "letters", 8, 2, 4), 7, tuple(range(7))))):
            for seed in range(6):
                dice, run = Dice(100 * at + seed), begin(new_cluster(scheme, width, used, 40))
                plain = Plain(run[0])
                for _ in range(26):
                    event = self.event_for(run, dice, True)
                    try:
                        reply, later = after_event(run, event)
                    except StoreError:
                        continue
                    if not is_held(later):
                        continue
                    run = later
                    meant = plain.event(self, event, reply, run[0])
                    many[event[0]] = many.get(event[0], 0) + 1
                    self.assertIn(meant, plain.may)
                    self.reads(run[0], meant)
        self.assertEqual(len(many), 7)
        self.assertGreater(min(many.values()), 12)

    def reads(self, cluster, meant):
        """Each read of a mended cluster tells what the plain store has."""
        if is_mended(cluster):
            for path in paths_of(meant[3]) + (("q",), ("a", "q")):
                self.assertEqual(read(cluster, path), node_at(meant[3], path))

    def test_never_another_text(self):
        # Without rot, held or not, the meaning is None or one of those.
        lost = 0
        for seed in range(22):
            dice, run = Dice(seed + 7), begin(new_cluster(SIX, 4 + seed % 2, (0, 1, 2, 3, 4), 40))
            plain = Plain(run[0])
            for _ in range(26):
                event = self.event_for(run, dice, False)
                try:
                    reply, run = after_event(run, event)
                except StoreError:
                    continue
                meant = plain.event(self, event, reply, run[0])
                lost += meant is None
                self.assertIn(meant, plain.may + [None])
        self.assertGreater(lost, 30)

    def test_asked_again(self):
        # A client that asks again with the same SEQ is told what happened, and it does not happen twice.
        for count in range(0, 400, 17):
            for harm in ((), (("burn", 1),), (("burn", 4), ("renew", 4)), (("rot", 2, 1, (5, 5, 5)),)):
                run = after_event(begin(ROOMS), ("cut", (0, 5, ("put", ("c",), (6,))), count, count % 2 == 0))[1]
                try:
                    run = after_events(run, harm + (("mend",),))[1]
                except StoreError:
                    # Rot wants a quiet disk and a chunk that is there.
                    continue
                reply, run = after_event(run, ("request", (0, 5, ("put", ("c",), (6,)))))
                self.assertEqual(reply, "done")
                self.assertEqual(meaning(run[0]), answer(meaning(ROOMS), 5, (0, 5, ("put", ("c",), (6,))))[1])
                self.assertEqual(after_event(run, ("request", (0, 5, ("remove", ("c",)))))[0], "done")

    def test_one_wrong_one_more_is_not_held(self):
        # What is no more held may be lost: three burnt, or one burnt and one rotten, of five with K 3.
        chunk = named(WIDE)[1]
        self.assertEqual(holders(WIDE, chunk), (0, 1, 2, 3, 4))
        self.assertEqual([row[0] for row in slow_survey(WIDE)], [1, 2, 3])
        for lost in (burn(WIDE, 0, 1, 2), spoilt(burn(WIDE, 0), 1, chunk, (1, 0, 0))):
            self.assertIsNone(meaning(lost))
        for kept in (burn(WIDE, 0, 1), spoilt(WIDE, 1, chunk, (1, 0, 0)), renew(burn(WIDE, 0, 1), 0, 1)):
            self.assertEqual(meaning(kept), meaning(WIDE))
