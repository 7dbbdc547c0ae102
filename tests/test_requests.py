"""Requests to clusters: points 36 to 40, 48 and 49 and the heading lettermend/requests.py."""

import itertools

from lettermend.clustererrors import InvalidCluster, InvalidPath, InvalidRequest, Lost
from lettermend.clusters import contents_of, cut_steps, done_steps, is_cluster, new_cluster
from lettermend.errors import Full, NotMended
from lettermend.files import cut_up
from lettermend.meanings import answer
from lettermend.mending import is_mended, mended_cluster, steps_to_mend
from lettermend.packing import packed
from lettermend.placement import placed
from lettermend.reading import holders, meaning, meta_of, named, right_holders, root_of
from lettermend.requests import decided_from, read, request_steps
from lettermend.shelves import held, home_of
from lettermend.trees import node_at, paths_of
from tests.harming import (FAR, burn, full_one, harmed, hide_root, litter, renew, slow_mended, small_bases, squeezed,
                           stray)
from tests.making import FOUR, ONES, ROOMY, SIX, TIGHT, WIDEST, rotten, under_way, with_block, with_disk, with_meta
from tests.slow import same_contents, slow_lost, slow_mending, slow_request
from tests.support import ODD, Told, rows_like
from tests.test_clusters import BURNT, NEW, NO_CLUSTERS
from tests.test_reading import ALL, FILES
from tests.test_trees import EMPTY

MOST = 10 ** 9
MAKE = (0, 1, ("make", ("x",)))
WIDE = new_cluster(SIX, 5, (0, 1, 2, 3, 4), 30)


def after(cluster, *deeds, client=0):
    """The cluster behind these deeds, requested one after the other, each of which is tried."""
    for deed in deeds:
        mark = [mark for mark in meaning(cluster)[2] if mark[0] == client]
        reply, steps = request_steps(cluster, (client, mark[0][1] + 1 if mark else 1, deed))
        assert steps, reply
        cluster = done_steps(cluster, steps)
    return cluster


ROOMS = after(new_cluster(SIX, 5, (0, 1, 2, 3, 4), 40), ("make", ("a",)), ("put", ("a", "b"), (1, 2, 3, 4, 5, 6, 7)),
              ("put", ("c",), ()), ("copy", ("a",), ("d",)))
DEEDS = (("make", ("x",)), ("make", ("a",)), ("make", ("c", "d")), ("make", ("a", "x")), ("put", ("x",), (30, 0, 1)),
         ("put", ("x",), ()), ("put", ("a", "b"), tuple(range(20))), ("put", ("a",), (1,)), ("put", ("c", "x"), (1,)),
         ("put", ("d", "b"), ()), ("copy", ("a",), ("x",)), ("copy", ("a", "b"), ("d", "x")), ("copy", ("q",), ("x",)),
         ("copy", ("a",), ("a", "x")), ("move", ("a",), ("d", "x")), ("move", ("a", "b"), ("x",)),
         ("move", ("c",), ("c",)), ("remove", ("a",)), ("remove", ("d", "b")), ("remove", ("q",)), ("join", 5),
         ("join", 0), ("leave", 0), ("leave", 5))


def with_marks(marks, homes=30, tree=()):
    """A mended cluster with these marks and this tree, META's chunks from 1 on."""
    meta = (0, 1, 2, 3, 4), marks, tree
    return with_meta(SIX, 5, homes, 3, meta, tuple(range(1, 1 + len(cut_up(SIX, packed(meta))))))


def needed(scheme, width, used, deed):
    """The least number of homes with which a deed asked of a new cluster is not answered "full"."""
    return [homes for homes in range(1, 61) if is_let(scheme, width, used, homes, deed)][0]


def is_let(scheme, width, used, homes, deed):
    """Whether there is such a new cluster and the deed is not answered "full"."""
    try:
        cluster = new_cluster(scheme, width, used, homes)
    except ValueError:
        return False
    return request_steps(cluster, (0, 1, deed))[0] != "full"


def alone_left():
    """A cluster of ONES of whose eight shelves in use seven burnt, and the one that stands."""
    base = new_cluster(ONES, 7, tuple(range(8)), 30)
    shelf = [at for at in range(8) if held(base[2][at]) == named(base)][0]
    return burn(base, *[at for at in range(8) if at != shelf]), shelf


class Replies(Told):

    def same(self, cluster, request):
        """The reply and the steps are those of the words; they are returned."""
        reply, steps, many = slow_request(cluster, request)
        self.assertEqual(request_steps(cluster, request), (reply, steps), request)
        self.assertEqual(decided_from(cluster, request), 4 * many + 2 if steps else None)
        self.assertIs(is_cluster(done_steps(cluster, steps)), True)
        return reply, steps

    def test_deeds(self):
        seen = set()
        for deed in DEEDS:
            reply, steps = self.same(ROOMS, (0, 5, deed))
            seen.add(reply)
            self.assertGreater(len(steps), 0)
            end = done_steps(ROOMS, steps)
            self.assertEqual((reply, meaning(end)), answer(meaning(ROOMS), 5, (0, 5, deed)))
            self.assertIs(is_mended(end), True)
            self.assertEqual(self.same(ROOMS, (7, 1, deed))[0], reply)
        self.assertEqual(seen, {"done", "taken", "no room", "no such", "within", "used", "too few", "unused"})

    def test_deeds_one_after_the_other(self):
        for base in (WIDE, new_cluster(TIGHT, 5, (0, 1, 2, 3, 4), 40), new_cluster(ROOMY, 9, tuple(range(9)), 40),
                     new_cluster(SIX, 4, (0, 2, 3, 5), 40), FILES):
            cluster, seq = base, 0
            deeds = DEEDS if base == WIDE else DEEDS[::3]
            for deed in deeds:
                seq += 1
                reply, steps = self.same(cluster, (1, seq, deed))
                before, cluster = cluster, done_steps(cluster, steps)
                if steps:
                    self.assertEqual(meaning(cluster), answer(meaning(before), base[1], (1, seq, deed))[1])
                    self.assertIs(is_mended(cluster), True)
                    self.assertEqual(request_steps(cluster, (1, seq, deed)), (reply, ()))
                else:
                    self.assertEqual(reply, "full")
                    seq -= 1

    def test_old_marked_and_early(self):
        cluster = after(WIDE, ("make", ("a",)), ("make", ("a",)))
        for client, seq, reply in ((0, 1, "old"), (0, 2, "taken"), (0, 4, "early"), (0, MOST, "early"), (1, 2, "early"),
                                   (7, MOST, "early")):
            for deed in DEEDS:
                self.assertEqual(self.same(cluster, (client, seq, deed)), (reply, ()))
                self.assertIsNone(decided_from(cluster, (client, seq, deed)))
        # They are told ahead of all that would bar the request.
        left, _ = alone_left()
        self.assertEqual(self.same(left, (0, 2, DEEDS[0])), ("early", ()))
        marked = with_marks(((0, 7, "no such"),), 5)
        for seq, reply in ((6, "old"), (7, "no such"), (8, "full"), (9, "early")):
            self.assertEqual(self.same(marked, (0, seq, ("put", ("a",), (1,)))), (reply, ()))
        for outcome in ("done", "no room", "taken", "no such", "within", "too deep", "too many", "too few", "used",
                        "unused"):
            marked = with_marks(((3, 7, outcome),), 5)
            self.assertEqual(request_steps(marked, (3, 7, ("make", ("a",)))), (outcome, ()))

    def test_a_seq_at_its_end(self):
        cluster = with_marks(((3, MOST - 1, "done"),))
        reply, steps = self.same(cluster, (3, MOST, ("make", ("a",))))
        self.assertEqual(reply, "done")
        self.assertEqual(meaning(done_steps(cluster, steps))[2], ((3, MOST, "done"),))

    def test_down_by_shelves_in_use_behind(self):
        left, shelf = alone_left()
        others = [at for at in range(8) if at != shelf]
        self.assertIs(is_mended(left), True)
        for deed in DEEDS:
            if deed[0] not in ("join", "leave"):
                self.assertEqual(self.same(left, (0, 1, deed)), ("down", ()))
        for other in others:
            # Behind a leave six of seven do not stand, as many as may be.
            reply, steps = self.same(left, (0, 1, ("leave", other)))
            self.assertEqual(reply, "done")
            self.assertEqual(meaning(done_steps(left, steps))[1], tuple(at for at in range(8) if at != other))
            self.assertEqual(self.same(left, (0, 1, ("join", other))), ("down", ()))
        self.assertEqual(self.same(left, (0, 1, ("leave", shelf))), ("down", ()))
        self.assertEqual(self.same(left, (0, 1, ("leave", 9))), ("down", ()))
        self.assertEqual(self.same(left, (0, 1, ("join", 8))), ("down", ()))
        one_more = mended_cluster(renew(left, others[2]))
        self.assertEqual(self.same(one_more, (0, 1, ("make", ("a",))))[0], "done")
        self.assertEqual(self.same(one_more, (0, 1, ("leave", others[2])))[0], "done")

    def test_down_by_a_join(self):
        for cluster in (burn(WIDE, 5), burn(WIDE, 5, 1), burn(WIDE, 5, 0, 4)):
            self.assertEqual(self.same(cluster, (0, 1, ("join", 5))), ("down", ()))
            self.assertEqual(self.same(cluster, (0, 1, ("make", ("a",))))[0], "done")
        # A burnt shelf that is in use already is "used", and that is an outcome.
        for shelf in (0, 3):
            reply, steps = self.same(burn(WIDE, shelf), (0, 1, ("join", shelf)))
            self.assertEqual((reply, bool(steps)), ("used", True))
        self.assertEqual(self.same(burn(WIDE, 1), (0, 1, ("join", 5)))[0], "done")
        # As many of a cluster's shelves in use as may be burnt are no hindrance.
        self.assertEqual(self.same(burn(WIDE, 1, 3), (0, 1, ("put", ("a",), (1,))))[0], "done")

    def test_down_ahead_of_full(self):
        homes = needed(ONES, 7, tuple(range(8)), ("join", 9)) - 1
        self.assertLess(homes, needed(ONES, 7, tuple(range(8)), DEEDS[0]))
        base = new_cluster(ONES, 7, tuple(range(8)), homes)
        self.assertEqual(self.same(base, (0, 1, DEEDS[0])), ("full", ()))
        shelf = [at for at in range(8) if held(base[2][at]) == named(base)][0]
        left = burn(base, *[at for at in range(8) if at != shelf])
        self.assertEqual(self.same(left, (0, 1, DEEDS[0])), ("down", ()))
        self.assertEqual(self.same(burn(base, 9), (0, 1, ("join", 9))), ("down", ()))
        self.assertEqual(self.same(base, (0, 1, ("join", 9))), ("full", ()))

    def test_full_by_homes(self):
        for scheme, width, used in ((FOUR, 4, (0, 1, 2, 3)), (SIX, 5, (0, 1, 2, 3, 4)), (SIX, 4, ALL),
                                    (TIGHT, 5, (0, 1, 2, 3, 4)), (ONES, 7, tuple(range(9))),
                                    (WIDEST, 10, tuple(range(10)))):
            for deed in (("make", ("a",)), ("put", ("a",), tuple(range(30))), ("put", ("a",), ()), ("remove", ("a",)),
                         ("join", scheme[2] - 1), ("leave", 0)):
                homes = needed(scheme, width, used, deed)
                reply, steps = self.same(new_cluster(scheme, width, used, homes), (0, 1, deed))
                self.assertNotEqual(reply, "full")
                self.assertGreater(len(steps), 0)
                fewer = new_cluster(scheme, width, used, homes - 1)
                self.assertEqual(self.same(fewer, (0, 1, deed)), ("full", ()))
                self.assertIsNone(decided_from(fewer, (0, 1, deed)))

    def test_full_by_shelves_that_do_not_stand(self):
        used = (0, 1, 2, 3, 4)
        for deed in (("make", ("a",)), ("put", ("a",), tuple(range(30)))):
            homes = needed(SIX, 5, used, deed)
            for shelf in used:
                for many, full in ((homes, False), (homes - 1, True)):
                    cluster = burn(new_cluster(SIX, 5, used, many), shelf)
                    self.assertEqual(self.same(cluster, (0, 1, deed))[0] == "full", full)

    def wanted(self, used, behind, chunks, later):
        """How many homes each shelf in use before or behind wants, by the words of point 36."""
        found = {}
        for shelf in {*used, *behind}:
            found[shelf] = {chunk for chunk in chunks if shelf in used and shelf in placed(chunk, used, 4)}
            found[shelf] |= {chunk for chunk in later if shelf in behind and shelf in placed(chunk, behind, 4)}
        return {shelf: len(wants) for shelf, wants in found.items()}

    def one_shelf_alone(self, used, behind, deed):
        """The shelf that leaves or joins wants more homes than all others, and they are just enough, or one fewer."""
        shelf = deed[1]
        likely = [chunk for chunk in range(1, 900) if shelf in placed(chunk, tuple(range(10)), 4)]
        for start in range(0, 300, 3):
            file, own = tuple(likely[start:start + 30]), likely[start + 30:]
            tree = tuple(("abc"[at], ("file", 60, file[10 * at:10 * at + 10])) for at in range(3))
            own = tuple(own[:len(cut_up(FAR, packed((used, (), tree))))])
            first, more = max(own) + 1, len(cut_up(FAR, packed((behind, ((0, 1, "done"),), tree))))
            wants = self.wanted(used, behind, file + own, file + tuple(range(first, first + more)))
            if wants[shelf] > max(many for other, many in wants.items() if other != shelf):
                break
        else:
            self.fail("no such chunks")
        pairs = tuple((chunk, (chunk % 31,) * 6) for chunk in file)
        for homes, reply in ((wants[shelf], "done"), (wants[shelf] - 1, "full")):
            cluster = with_meta(FAR, 4, 60, 3, (used, (), tree), own, pairs)
            cluster = squeezed(burn(cluster, shelf) if shelf in used else cluster, homes)
            self.assertIs(is_mended(cluster), True)
            self.assertEqual(self.same(cluster, (0, 1, deed))[0], reply)

    def test_full_by_a_shelf_in_use_before_or_behind_alone(self):
        tens = tuple(range(10))
        for shelf in (0, 4, 9):
            others = tuple(at for at in tens if at != shelf)
            self.one_shelf_alone(tens, others, ("leave", shelf))
            self.one_shelf_alone(others, tens, ("join", shelf))

    def test_full_by_what_lies_there(self):
        # Strays that mending leaves, as too few of the shelves on which a chunk is placed stand, take homes, too.
        six = new_cluster(SIX, 4, ALL, 12)
        lots, kept, seen = {chunk: holders(six, chunk) for chunk in named(six)}, 0, set()
        for gone in itertools.combinations(ALL, 2):
            lame, homes = six, 12
            for chunk, lot in lots.items():
                for at in ALL:
                    if at not in lot and at not in gone:
                        lame = stray(lame, at, chunk)
            lame = burn(lame, *gone)
            self.assertIsNotNone(meaning(lame))
            lame = slow_mended(lame)
            kept += sum(len(held(disk)) for disk in lame[2] if disk is not None) > 2 * len(lots)
            for at in gone:
                deed = ("leave", at)
                reply, steps = self.same(lame, (0, 1, deed))
                self.assertIn(reply, ("done", "full"))
                self.assertEqual(self.same(lame, (0, 1, ("make", ("a",)))), ("down", ()))
                for fewer in range(5, homes):
                    small = squeezed(lame, fewer)
                    if small is not None:
                        seen.add(self.same(small, (0, 1, deed))[0])
        self.assertGreater(kept, 3)
        self.assertEqual(seen, {"done", "full"})

    def wants_with_strays(self, base, shelf, at):
        """How many homes each shelf in use wants when the shelf leaves, told what lies there already."""
        used, chunks = meaning(base)[1], named(base)
        behind = tuple(other for other in used if other != shelf)
        many = len(cut_up(FAR, packed((behind, ((0, 1, "done"),), ()))))
        new = range(chunks[-1] + 1, chunks[-1] + 1 + many)
        found = self.wanted(used, behind, chunks, new)
        found[at] = len({chunk for chunk in chunks} | {chunk for chunk in new if at in placed(chunk, behind, 4)})
        return found

    def test_full_by_strays_of_one_shelf_alone(self):
        # Two of the four shelves of each chunk are burnt, so what lies beside them stays, and takes homes.
        tens, seen = tuple(range(10)), 0
        many = len(cut_up(FAR, packed((tens, (), ()))))
        for start in range(60):
            where = placed(start + 1, tens, 4)
            alike = [chunk for chunk in range(1, 6000) if placed(chunk, tens, 4) == where]
            chunks = tuple(alike[:many])
            base = with_meta(FAR, 4, 30, 3, (tens, (), ()), chunks)
            for at in [at for at in tens if at not in where]:
                cluster = base
                for chunk in chunks:
                    cluster = stray(cluster, at, chunk)
                cluster = burn(cluster, *where[:2])
                self.assertIs(is_mended(cluster), True)
                wants = self.wants_with_strays(base, where[0], at)
                if wants[at] > max(homes for other, homes in wants.items() if other != at):
                    seen += 1
                    for homes, reply in ((wants[at], "done"), (wants[at] - 1, "full")):
                        self.assertEqual(self.same(squeezed(cluster, homes), (0, 1, ("leave", where[0])))[0], reply)
                    break
            if seen == 4:
                return
        self.fail("no such chunks")

    def test_full_by_a_long_meta(self):
        seen = set()
        for many, letters in itertools.product((26, 27), (1, 4, 5, 6)):
            used = tuple(range(10))
            names = tuple(("y" * 6 + "abc"[at // 26] + "abcdefghijklmnopqrstuvwxyz"[at % 26], EMPTY)
                          for at in range(many))
            meta = used, (), names
            row = packed(meta)
            chunks = tuple(range(1, 1 + len(cut_up(FAR, row))))
            self.assertLessEqual(len(chunks), 60)
            cluster = with_meta(FAR, 4, 60, 5, meta, chunks)
            deed = ("make", ("b" * letters,))
            behind = used, ((0, 1, "done"),), node_at(answer(meaning(cluster), 4, (0, 1, deed))[1][3], ())[1]
            wanted = len(cut_up(FAR, packed(behind)))
            reply, steps = self.same(cluster, (0, 1, deed))
            self.assertEqual(reply, "full" if wanted > 60 else "done")
            self.assertIs(bool(steps), wanted <= 60)
            seen.add(wanted)
            if wanted == 60:
                self.assertEqual(len(root_of(done_steps(cluster, steps))), 62)
        self.assertLessEqual({60, 61}, seen)

    def test_full_by_great_numbers(self):
        used = (0, 1, 2, 3, 4)
        many = len(cut_up(SIX, packed((used, (), ()))))
        for deed in (("make", ("a",)), ("put", ("a",), (1,)), ("put", ("a",), tuple(range(13)))):
            for greatest in list(range(MOST - 12, MOST + 1)) + [MOST + 1, MOST + 10 ** 3, 10 ** 300]:
                chunks = tuple(range(greatest - many + 1, greatest + 1))
                cluster = with_meta(SIX, 5, 30, 5, (used, (), ()), chunks)
                self.assertIs(is_mended(cluster), True)
                reply, steps = self.same(cluster, (0, 1, deed))
                if steps:
                    self.assertLessEqual(max(named(done_steps(cluster, steps))), MOST)
                self.assertEqual(bool(steps), reply != "full")
            self.assertEqual(reply, "full")
        # Just 10 ** 9 is a number of a chunk.
        file = with_meta(SIX, 5, 30, 5, (used, (), ()), (MOST - 8, MOST - 7, MOST - 6)[:many])
        reply, steps = self.same(file, (0, 1, ("make", ("ab",))))
        self.assertEqual((reply, max(named(done_steps(file, steps)))), ("done", MOST - 6 + len(cut_up(SIX, packed(
            (used, ((0, 1, "done"),), (("ab", EMPTY),)))))))

    def test_chunks_of_files(self):
        cluster = after(WIDE, ("put", ("a",), tuple(range(13))))
        first = meta_of(cluster)[3][0][1]
        self.assertEqual(first, ("file", 13, (4, 5, 6)))
        copied = after(cluster, ("copy", ("a",), ("b",)))
        self.assertEqual([node for _, node in meta_of(copied)[3]], [first, first])
        self.assertEqual(max(named(copied)), max(named(cluster)) + len(root_of(copied)) - 2)
        put = after(copied, ("put", ("a",), (1,)))
        nodes = [node for _, node in meta_of(put)[3]]
        self.assertEqual(nodes, [("file", 1, (max(named(copied)) + 1,)), first])
        moved = after(put, ("move", ("b",), ("c",)))
        self.assertEqual(meta_of(moved)[3][1], ("c", first))
        empty = after(moved, ("put", ("c",), ()))
        self.assertEqual(meta_of(empty)[3][1], ("c", ("file", 0, ())))
        self.assertFalse({4, 5, 6} & set(named(empty)))
        taken = after(empty, ("put", ("c", "d"), (1, 2, 3)))
        self.assertEqual(len(named(taken)), len(root_of(taken)) - 2 + 1)


class Cuts(Told):

    def every_cut(self, cluster, request, every=1):
        """Cut anywhere: what it means, what mending leaves, and what the request is told when it is asked again."""
        reply, steps = request_steps(cluster, request)
        decides, whole = decided_from(cluster, request), done_steps(cluster, steps)
        before, behind = meaning(cluster), meaning(whole)
        self.assertEqual((reply, behind), answer(before, cluster[1], request))
        self.assertEqual(steps[decides - 1][1:], (0, (1,)))
        self.assertEqual(steps[decides - 2][2], (9,) + root_of(whole))
        counts = sorted(set(range(0, len(steps) + 1, every)) | set(range(decides - 6, decides + 6)))
        for count in counts:
            for torn in (False, True):
                cut = cut_steps(cluster, steps, count, torn)
                self.assertIs(is_cluster(cut), True)
                self.assertEqual(meaning(cut), before if count < decides else behind)
                end = mended_cluster(cut)
                self.assertEqual(meaning(end), meaning(cut))
                if count < decides:
                    self.assertEqual(contents_of(end), contents_of(cluster))
                    again, more = request_steps(end, request)
                    self.assertEqual(again, reply)
                    self.assertTrue(same_contents(done_steps(end, more), whole))
                else:
                    self.assertEqual(end, whole)
                    self.assertEqual(request_steps(end, request), (reply, ()))
                self.assertEqual(read(end, ()), ("room", meaning(cut)[3]))

    def test_tree_deeds(self):
        for deed in (("make", ("x",)), ("put", ("a", "b"), tuple(range(14))), ("copy", ("a",), ("x",)),
                     ("remove", ("a",)), ("remove", ("q",))):
            self.every_cut(ROOMS, (0, 5, deed), 13)
        self.every_cut(NEW_TWENTY, (0, 1, ("put", ("a",), (9,))))

    def test_joins_and_leaves(self):
        base = after(new_cluster(SIX, 4, (0, 1, 2, 3, 5), 30), ("put", ("a",), tuple(range(20))))
        for deed in (("join", 4), ("leave", 1), ("leave", 5), ("join", 0), ("leave", 4)):
            self.every_cut(base, (3, 1, deed), 9)
        self.every_cut(burn(base, 0), (3, 1, ("join", 4)), 9)
        self.every_cut(burn(base, 0), (3, 1, ("leave", 0)), 9)
        self.every_cut(burn(base, 0), (3, 1, ("leave", 2)), 11)

    def test_other_schemes(self):
        for scheme, width, used in ((TIGHT, 5, (0, 1, 2, 3, 4)), (ONES, 7, tuple(range(8)))):
            self.every_cut(new_cluster(scheme, width, used, 24), (0, 1, ("put", ("a",), tuple(range(9)))), 9)
            self.every_cut(burn(new_cluster(scheme, width, used, 24), 1), (0, 1, ("make", ("a",))), 9)

    def test_writes(self):
        request = (0, 1, ("put", ("a",), tuple(range(8))))
        reply, steps = request_steps(WIDE, request)
        row = packed(((0, 1, 2, 3, 4), ((0, 1, "done"),), (("a", ("file", 8, (4, 5))),)))
        messages = cut_up(SIX, tuple(range(8))) + cut_up(SIX, row)
        many = len(messages)
        self.assertEqual(reply, "done")
        self.assertEqual(decided_from(WIDE, request), 4 * 5 * many + 2)
        written = [step for step in steps[:20 * many] if step[1] > 8]
        self.assertEqual([(shelf, block[0]) for shelf, _, block in written],
                         [(shelf, 4 + at) for at in range(many) for shelf in range(5)])
        self.assertEqual({place for _, place, _ in written}, set(range(13, 13 + many)))
        root = (2, len(row)) + tuple(range(6, 4 + many))
        self.assertEqual(steps[20 * many:20 * many + 4], ((0, 1, (9,) + root), (0, 0, (1,)), (0, 9, root), (0, 0, ())))
        rest = steps[20 * many + 4:]
        self.assertEqual(rest, steps_to_mend(done_steps(WIDE, steps[:20 * many + 4])))
        self.assertEqual([step for step in rest if step[1] == 9], [(shelf, 9, root) for shelf in (1, 2, 3, 4)])

    def test_the_least_shelf_in_use_behind_gets_the_root_first(self):
        for cluster, deed, shelf in ((WIDE, ("join", 5), 0), (burn(WIDE, 0), ("make", ("a",)), 1),
                                     (burn(WIDE, 0, 1), ("make", ("a",)), 2),
                                     (new_cluster(SIX, 4, ALL, 30), ("leave", 0), 1),
                                     (new_cluster(SIX, 4, ALL[1:], 30), ("join", 0), 0),
                                     (burn(new_cluster(SIX, 4, ALL, 30), 1), ("leave", 0), 2)):
            steps, at = request_steps(cluster, (0, 1, deed))[1], decided_from(cluster, (0, 1, deed))
            self.assertEqual(steps[at - 1], (shelf, 0, (1,)))
            self.assertEqual(steps[at][:2], (shelf, 9))

    def test_burnt_in_between(self):
        request = (0, 5, ("put", ("a", "b"), (7, 7)))
        reply, steps = request_steps(ROOMS, request)
        before, behind = meaning(ROOMS), meaning(done_steps(ROOMS, steps))
        decides, seen = decided_from(ROOMS, request), set()
        for count in range(0, len(steps) + 1, 6):
            cut = cut_steps(ROOMS, steps, count, count % 4 == 0)
            for many in range(4):
                for lot in list(itertools.combinations(range(5), many))[::2]:
                    meant = meaning(burn(cut, *lot))
                    self.assertIn(meant, (None, before, behind))
                    seen.add((meant == before, meant == behind, count < decides))
        # Cut just behind the deciding step, the root goes with its one shelf.
        one = cut_steps(ROOMS, steps, decides + 2, False)
        self.assertEqual([meaning(one), meaning(burn(one, 0)), meaning(burn(one, 1))], [behind, before, behind])
        self.assertGreaterEqual(len(seen), 4)
        self.assertEqual(reply, "done")

    def test_never_fewer_pieces(self):
        base = after(new_cluster(SIX, 4, (0, 1, 2, 3, 5), 30), ("put", ("a",), rows_like(31, 40, 1)))
        for deed in (("join", 4), ("leave", 1), ("leave", 5)):
            steps = request_steps(base, (3, 1, deed))[1]
            whole = done_steps(base, steps)
            both = set(named(base)) & set(named(whole))
            self.assertGreater(len(both), 5)
            moved = 0
            for count in range(0, len(steps) + 1, 3):
                cut = cut_steps(base, steps, count, True)
                for chunk in both:
                    self.assertGreaterEqual(len(right_holders(cut, chunk)), 4)
            for chunk in both:
                lots = [placed(chunk, meta_of(one)[1], 4) for one in (base, whole)]
                self.assertEqual([holders(base, chunk), holders(whole, chunk)], lots)
                moved += lots[0] != lots[1]
                self.assertLessEqual(len(set(lots[1]) - set(lots[0])), 1)
            self.assertGreater(moved, 0)

    def test_a_shelf_that_left_is_blank(self):
        base = after(new_cluster(SIX, 4, ALL, 30), ("put", ("a",), rows_like(31, 40, 1)))
        for shelf in ALL:
            whole = after(base, ("leave", shelf), client=2)
            self.assertEqual(contents_of(whole)[shelf], ((),) * 31)
            back = after(whole, ("join", shelf), client=2)
            self.assertEqual(meaning(back)[1], ALL)
            self.assertEqual(held(back[2][shelf]), tuple(chunk for chunk in named(back)
                                                         if shelf in placed(chunk, ALL, 4)))
            for chunk in named(back):
                self.assertEqual(home_of(back[2][shelf], chunk) is not None, shelf in placed(chunk, ALL, 4))


NEW_TWENTY = new_cluster(FOUR, 4, (0, 1, 2, 3), 20)


class Reads(Told):

    def test_what_stands_there(self):
        for cluster in (ROOMS, FILES, NEW, burn(ROOMS, 2)):
            view = meaning(cluster)[3]
            self.assertEqual(read(cluster, ()), ("room", view))
            for path in paths_of(view) + (("q",), ("a", "q"), ("a", "b", "c"), ("q",) * 6):
                self.assertEqual(read(cluster, path), node_at(view, path))
        self.assertEqual(self.by_name(read, cluster=ROOMS, path=("a", "b")), ("file", (1, 2, 3, 4, 5, 6, 7)))
        self.assertEqual(read(ROOMS, ("c",)), ("file", ()))
        self.assertIsNone(read(ROOMS, ("c", "d")))

    def test_by_name(self):
        request = (0, 5, ("put", ("x",), (1,)))
        self.assertEqual(self.by_name(request_steps, cluster=ROOMS, request=request)[0], "done")
        self.assertEqual(self.by_name(decided_from, cluster=ROOMS, request=request) % 4, 2)


class Wrong(Told):

    CALLS = ((request_steps, MAKE), (decided_from, MAKE), (read, ("a",)))

    def test_clusters(self):
        for value in NO_CLUSTERS:
            for function, more in self.CALLS:
                self.given(InvalidCluster, value, function, value, more)

    def test_requests(self):
        deed = ("make", ("a",))
        wrong = ODD + (5, (), (0, 1), (0, 1, deed, 1), [0, 1, deed], (8, 1, deed), (-1, 1, deed), (0, 0, deed),
                       (0, MOST + 1, deed), (True, 1, deed), (0, True, deed), (0, 1, ("read", ("a",))),
                       (0, 1, ("put", ("a",), (31,))), (0, 1, ("put", ("a",), (0, 96))), (0, 1, ("join", 4)),
                       (0, 1, ("leave", 4)), (0, 1, ("join", 9)), (0, 1, ("join", True)), (0, 1, ("make", ())),
                       (0, 1, ("put", ("a",), (1,) * 61)), (0, 1, ("put", ("a",), [1])), (0, 1, ["make", ("a",)]))
        for value in wrong:
            self.given(InvalidRequest, value, request_steps, NEW, value)
            self.given(InvalidRequest, value, decided_from, NEW, value)
            self.given(InvalidRequest, value, request_steps, BURNT, value)
        wide = new_cluster(WIDEST, 10, tuple(range(10)), 20)
        for deed in (("put", ("a",), (31, 96)), ("join", 9), ("leave", 9)):
            self.assertEqual(request_steps(wide, (0, 1, deed))[0] in ("done", "used", "too few"), True)
        for prime in (31, 37):
            scheme = (prime,) + FOUR[1:]
            cluster = new_cluster(scheme, 4, (0, 1, 2, 3), 20)
            self.assertEqual(request_steps(cluster, (0, 1, ("put", ("a",), (prime - 1,))))[0], "done")
            wrong = (0, 1, ("put", ("a",), (prime,)))
            self.given(InvalidRequest, wrong, request_steps, cluster, wrong)

    def test_paths(self):
        for value in ODD + (5, [], ("A",), ("",), ("abcdefghi",), ("a",) * 7, ["a"], "a", ("a", 1), ("a", None),
                            (("a",),)):
            self.given(InvalidPath, value, read, NEW, value)
            self.given(InvalidPath, value, read, BURNT, value)
        self.assertEqual(read(NEW, ("a",) * 6), None)

    def test_order(self):
        for function, wrong in ((request_steps, (0, 0, MAKE[2])), (decided_from, (0, 0, MAKE[2]))):
            self.in_order(function, (("cluster", NEW, NEW[:2], InvalidCluster, "given"),
                                     ("request", MAKE, wrong, InvalidRequest, "given")))
        self.in_order(read, (("cluster", NEW, NEW[:2], InvalidCluster, "given"),
                             ("path", ("a",), ("A",), InvalidPath, "given")))

    def test_lost_full_and_not_mended(self):
        full = full_one()[0]
        seen = set()
        for cluster in [full, with_block(full, 2, 0, None), hide_root(full, 1, ()), BURNT, burn(NEW, 0, 1),
                        litter(NEW, 2, 1), hide_root(NEW, 3, ()), rotten(NEW, 1, 1, (1, 0, 0)),
                        rotten(WIDE, 1, 1, (1, 0, 0)), with_disk(NEW, 2, under_way(NEW[2][2])),
                        with_block(NEW, 1, 0, None), renew(burn(NEW, 1), 1)] + list(harmed(small_bases(), 3, 5)):
            lost, given = slow_lost(cluster)
            phases, end, _ = (None, None, None) if lost else slow_mending(cluster)
            steps = () if lost or end is None else sum(phases, ())
            for function, more in self.CALLS:
                if lost:
                    self.like(Lost, given, function, cluster, more)
                elif end is None:
                    self.like(Full, phases, function, cluster, more)
                elif steps:
                    self.like(NotMended, steps[0], function, cluster, more)
                else:
                    function(cluster, more)
            seen.add((lost, given is None, end is None, bool(steps)))
            # An argument that is wrong is told ahead of these.
            self.given(InvalidPath, "a", read, cluster, "a")
            self.given(InvalidRequest, (), request_steps, cluster, ())
        self.assertEqual(seen, {(True, True, True, False), (False, True, True, False), (False, True, False, True),
                                (False, True, False, False)})
