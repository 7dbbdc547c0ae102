"""Certificates: the heading lettermend/certificates.py."""

from lettermend.certificates import (certify_meaning, certify_mended, certify_mending, certify_order, certify_reading,
                                     certify_reply)
from lettermend.checker import accepts
from lettermend.clustererrors import InvalidCluster, InvalidEvents, InvalidRequest, InvalidScripts, Lost
from lettermend.clusters import new_cluster
from lettermend.errors import Full, InvalidShelf, InvalidShelves, InvalidTold, NotMended
from lettermend.lots import lots_of
from lettermend.mending import is_mended, steps_to_mend
from lettermend.post import new_post
from lettermend.reading import meaning
from lettermend.records import record
from lettermend.requests import request_steps
from lettermend.told import does_mend, does_read, told_of
from tests.claiming import is_so
from tests.harming import Dice, burn, full_one, harmed, hide_root, large_bases, litter, small_bases
from tests.making import FOUR
from tests.posting import LARGE, SCRIPTS, SMALL, TIGHTER, WIDE, events_for
from tests.slow import slow_lost, slow_mending
from tests.support import ODD, Told
from tests.test_checker import HALF, TWICE, papers_of
from tests.test_clusters import BURNT, NEW, NO_CLUSTERS
from tests.test_packing import MOST
from tests.test_requests import DEEDS, ROOMS, with_marks

MAKE = (0, 1, ("make", ("x",)))
STORES = (TWICE, HALF, told_of((11, "letters", 4, 2, 2)), told_of((13, "letters", 5, 2, 3)),
          told_of((11, "room", 5, 3, 4)), told_of((31, "letters", 4, 3, 3)))


def lots_from(shelves):
    """All ascending lots of these shelves, () among them."""
    return [tuple(shelves[at] for at in lot) for many in range(len(shelves) + 1) for lot in lots_of(len(shelves), many)]


class Certificates(Told):

    def accepted(self, found, word, parts):
        """The claim has this word and these parts, and the checker accepts the paper for it; the paper is told."""
        self.assertEqual(len(found), 2)
        claim, paper = found
        self.assertEqual(repr(claim), repr((word,) + parts))
        self.assertIs(accepts(claim, paper), True)
        self.assertIs(bool(is_so(claim, paper)), True)
        return paper

    def test_reading(self):
        for told in STORES:
            for lot in lots_from(tuple(range(len(told[2])))):
                if does_read(told, lot):
                    self.assertEqual(self.accepted(certify_reading(told, lot), "reads", (told, lot)), ())
                else:
                    self.accepted(certify_reading(told, lot), "blind", (told, lot))
        self.assertEqual(self.by_name(certify_reading, told=HALF, lot=(0, 1)), (("reads", HALF, (0, 1)), ()))

    def test_mending(self):
        for told in STORES:
            many = len(told[2])
            for lost in range(many):
                for givers in lots_from(tuple(shelf for shelf in range(many) if shelf != lost)):
                    parts = told, lost, givers
                    if does_mend(told, lost, givers):
                        self.assertEqual(self.accepted(certify_mending(*parts), "mends", parts), ())
                    else:
                        self.accepted(certify_mending(*parts), "mends not", parts)
        self.assertEqual(self.by_name(certify_mending, told=HALF, lost=2, givers=(0, 1)),
                         (("mends", HALF, 2, (0, 1)), ()))

    def test_clusters(self):
        seen = set()
        for cluster in list(harmed(small_bases(), 4, 5)) + list(large_bases()) + [BURNT, full_one()[0], ROOMS]:
            lost, given = slow_lost(cluster)
            if lost:
                self.like(Lost, given, certify_meaning, cluster)
                self.like(Lost, given, certify_mended, cluster)
                seen.add("lost")
                continue
            paper = self.accepted(certify_meaning(cluster), "means", (cluster, meaning(cluster)))
            self.assertEqual(paper, papers_of(cluster))
            phases, end, _ = slow_mending(cluster)
            if end is None:
                self.like(Full, phases, certify_mended, cluster)
                seen.add("full")
            elif is_mended(cluster):
                self.assertEqual(self.accepted(certify_mended(cluster), "mended", (cluster,)), ())
                seen.add("mended")
            else:
                paper = self.accepted(certify_mended(cluster), "unmended", (cluster,))
                self.assertEqual(paper, steps_to_mend(cluster)[0])
                seen.add("unmended")
        self.assertEqual(seen, {"lost", "full", "mended", "unmended"})
        self.assertEqual(self.by_name(certify_mended, cluster=NEW), (("mended", NEW), ()))
        self.assertEqual(self.by_name(certify_meaning, cluster=NEW)[0], ("means", NEW, meaning(NEW)))

    def test_replies(self):
        seen = set()
        for cluster in (ROOMS, burn(WIDE, 5), NEW, new_cluster(FOUR, 4, (0, 1, 2, 3), 5)):
            for deed in DEEDS[:20] + (("join", 3), ("leave", 0)):
                for client, seq in ((0, 5), (0, 4), (0, 1), (7, 1), (7, 2)):
                    request = client, seq, deed
                    reply = request_steps(cluster, request)[0]
                    seen.add(reply)
                    parts = cluster, request, reply
                    self.assertEqual(self.accepted(certify_reply(cluster, request), "replies", parts), ())
        down = (0, 1, ("join", 5))
        self.assertEqual(certify_reply(burn(WIDE, 5), down)[0][3], "down")
        self.assertLessEqual({"done", "taken", "no such", "old", "early", "full", "used"}, seen)
        self.assertEqual(self.by_name(certify_reply, cluster=NEW, request=MAKE), (("replies", NEW, MAKE, "done"), ()))

    def test_orders(self):
        for at, cluster in enumerate((SMALL, WIDE, LARGE, TIGHTER)):
            for seed in range(4):
                events = events_for(Dice(70 * at + seed), 50, 3, len(cluster[2]))
                parts = cluster, SCRIPTS, events
                paper = self.accepted(certify_order(*parts), "order", parts)
                self.assertEqual(paper, record(new_post(cluster, SCRIPTS), events))
        self.assertEqual(self.by_name(certify_order, cluster=SMALL, scripts=SCRIPTS, events=()),
                         (("order", SMALL, SCRIPTS, ()), ()))


class Wrong(Told):

    def test_stores(self):
        for value in ODD + (5, (), HALF[:3]):
            self.given(InvalidTold, value, certify_reading, value, (0,))
            self.given(InvalidTold, value, certify_mending, value, 0, (1,))
        for value, index in ((5, None), ([0], None), ((0, 3), 1), ((1, 0), 1), ((True,), 0), ((0, 0), 1), ((-1,), 0)):
            self.index(InvalidShelves, index, certify_reading, HALF, value)
            self.index(InvalidShelves, index, certify_mending, HALF, 2, value)
        self.index(InvalidShelves, 1, certify_mending, HALF, 1, (0, 1))
        for value in ODD + (-1, 3):
            self.given(InvalidShelf, value, certify_mending, HALF, value, (0,))
        self.in_order(certify_reading, (("told", HALF, HALF[:3], InvalidTold, "given"),
                                        ("lot", (0,), (3,), InvalidShelves, 0)))
        self.in_order(certify_mending, (("told", HALF, HALF[:3], InvalidTold, "given"),
                                        ("lost", 0, 3, InvalidShelf, "given"),
                                        ("givers", (1,), (3,), InvalidShelves, 0)))

    def test_clusters(self):
        for value in NO_CLUSTERS:
            self.given(InvalidCluster, value, certify_meaning, value)
            self.given(InvalidCluster, value, certify_mended, value)
            self.given(InvalidCluster, value, certify_reply, value, MAKE)
            self.given(InvalidCluster, value, certify_order, value, SCRIPTS, ())

    def test_replies(self):
        self.in_order(certify_reply, (("cluster", NEW, NEW[:2], InvalidCluster, "given"),
                                      ("request", MAKE, (0, 0, MAKE[2]), InvalidRequest, "given")))
        lame = hide_root(NEW, 1, ())
        for cluster, error, given in ((BURNT, Lost, None), (full_one()[0], Full, full_one()[1]),
                                      (lame, NotMended, steps_to_mend(lame)[0])):
            self.like(error, given, certify_reply, cluster, MAKE)
            self.like(error, given, certify_order, cluster, SCRIPTS, [])
        wrong = (0, 1, ("put", ("a",), (31,)))
        self.given(InvalidRequest, wrong, certify_reply, NEW, wrong)
        self.given(InvalidRequest, wrong, certify_reply, BURNT, wrong)

    def test_orders(self):
        self.in_order(certify_order, (("cluster", SMALL, SMALL[:2], InvalidCluster, "given"),
                                      ("scripts", SCRIPTS, (), InvalidScripts, "given"),
                                      ("events", (), [], InvalidEvents, None)))
        self.index(InvalidEvents, 1, certify_order, SMALL, SCRIPTS, (("send", 0), ("send", 8)))
        self.index(InvalidEvents, None, certify_order, SMALL, SCRIPTS, (("send", 0),) * 201)
        # All that a new post tells comes ahead of events that are none.
        marked = with_marks(((0, MOST, "done"),))
        scripts = ((("make", ("a",)),),)
        self.given(InvalidScripts, scripts, certify_order, marked, scripts, [])
        lame = litter(marked, 1, 1)
        self.like(NotMended, steps_to_mend(lame)[0], certify_order, lame, scripts, [])
        self.given(InvalidScripts, (), certify_order, lame, (), [])
