"""Mending: points 44 to 47 and the heading lettermend/mending.py."""

from lettermend.clustererrors import InvalidCluster, Lost
from lettermend.clusters import contents_of, cut_steps, done_steps, is_cluster, new_cluster, standing
from lettermend.codes import letter, mended
from lettermend.errors import Full
from lettermend.journals import is_quiet
from lettermend.mending import (givers_of, is_mended, mended_cluster, numbers_sent, phases_of, steps_to_mend)
from lettermend.placement import placed
from lettermend.reading import holders, meaning, meta_of, named, piece_for, right_holders, root_of
from lettermend.schemes import room_of
from lettermend.shelves import free_homes, held, piece_of, shelf_root
from tests.harming import (Dice, burn, cut_batch, files_in, full_one, harmed, hide_root, large_bases, lesser_root, litter, quiet, readable,
                           renew, small_bases, stray, used_of)
from tests.making import FOUR, ONES, SIX, TIGHT, rotten, under_way, with_block, with_disk, with_meta, without_chunk
from tests.slow import slow_lost, slow_mending, slow_sent, slow_survey
from tests.support import Told
from tests.test_clusters import BURNT, NEW, NO_CLUSTERS
from tests.test_reading import ALL, FILES, with_files

WIDE = new_cluster(SIX, 5, (0, 1, 2, 3, 4), 30)
TALL = new_cluster((31, "letters", 7, 3, 3), 7, tuple(range(7)), 9)
FEW = new_cluster(SIX, 4, ALL, 16)
FEW_LATER = with_meta(SIX, 4, 9, 5, ((0, 1, 2, 3), ((2, 7, "done"),), ()), (11, 12, 13, 14))
ASKED = (phases_of, steps_to_mend, mended_cluster, givers_of, numbers_sent)


def batch_of(shelf, *writes):
    """The steps of a batch on a shelf, by the words of point 18."""
    slots = tuple((shelf, at, (place,) + block) for at, (place, block) in enumerate(writes, start=1))
    rest = tuple((shelf, place, block) for place, block in writes)
    return slots + ((shelf, 0, (len(writes),)),) + rest + ((shelf, 0, ()),)


def row_of(cluster, chunk):
    """The survey of a chunk, by the words."""
    return [row for row in slow_survey(cluster) if row[0] == chunk][0][1:]


class Phases(Told):

    def alone(self, cluster, at, steps):
        """The mending has steps in this phase alone, and they are these."""
        found = phases_of(cluster)
        self.assertEqual(len(found), 5)
        self.assertEqual(found, tuple(steps if phase == at else () for phase in range(5)))
        self.assertEqual(steps_to_mend(cluster), steps)
        self.assertIs(is_mended(cluster), not steps)
        self.assertEqual(mended_cluster(cluster), done_steps(cluster, steps))

    def test_nothing_to_mend(self):
        for cluster in list(small_bases()) + list(large_bases()):
            self.alone(cluster, 0, ())
            self.assertEqual(mended_cluster(cluster), cluster)
            self.assertEqual((givers_of(cluster), numbers_sent(cluster)), ((), 0))
            self.alone(burn(cluster, used_of(cluster)[0]), 0, ())

    def test_1_heads(self):
        for shelf in ALL:
            torn = with_block(WIDE, shelf, 0, None)
            self.alone(torn, 0, ((shelf, 0, ()),))
            disk = WIDE[2][shelf]
            self.alone(with_disk(WIDE, shelf, under_way(disk)), 0,
                       tuple((shelf, place, disk[place]) for place in (9, 10, 11)) + ((shelf, 0, ()),))
        cluster = with_block(with_block(WIDE, 4, 0, None), 1, 0, None)
        self.alone(cluster, 0, ((1, 0, ()), (4, 0, ())))
        self.alone(burn(cluster, 1), 0, ((4, 0, ()),))

    def test_2_roots(self):
        root = root_of(WIDE)
        for shelf in (0, 3, 4):
            self.alone(hide_root(WIDE, shelf, ()), 1, batch_of(shelf, (9, root)))
        cluster = hide_root(hide_root(FILES, 5, (2, 1, 1)), 2, ())
        self.alone(cluster, 1, batch_of(2, (9, root_of(FILES))) + batch_of(5, (9, root_of(FILES))))
        self.alone(hide_root(FILES, 3, (1, 10 ** 300, 4)), 1, batch_of(3, (9, root_of(FILES))))
        self.alone(burn(cluster, 2), 1, batch_of(5, (9, root_of(FILES))))
        # Shelf 5 is not in use: it gets no root.
        self.alone(hide_root(WIDE, 5, ()), 1, ())

    def test_2_a_greater_root_that_is_not_of_all(self):
        cluster = FEW_LATER
        for shelf in (0, 1, 3):
            cluster = hide_root(cluster, shelf, (4, 20, 1, 2, 3, 4))
        steps = sum((batch_of(shelf, (9, root_of(cluster))) for shelf in (0, 1, 3)), ())
        self.alone(cluster, 1, steps)

    def test_3_chunks_that_are_not_named(self):
        for many in (1, 7, 8, 9, 16, 17, 25):
            for shelf in (2, 5):
                cluster = litter(WIDE, shelf, many)
                places = [place for place in range(10, 40) if cluster[2][shelf][place]
                          and cluster[2][shelf][place][0] >= 5000]
                self.assertEqual(len(places), many)
                steps = ()
                while places:
                    steps += batch_of(shelf, *[(place, ()) for place in places[:8]])
                    places = places[8:]
                self.alone(cluster, 2, steps)
        cluster = litter(litter(FILES, 4, 2), 1, 1)
        self.alone(cluster, 2, batch_of(1, (39, ())) + batch_of(4, (38, ()), (39, ())))
        between = with_block(WIDE, 3, 20, (4, 1, 1, 1))
        self.alone(between, 2, batch_of(3, (20, ())))

    def test_4_lacking_and_wrong_pieces(self):
        for chunk in (1, 2, 3):
            for shelf in (0, 1, 2, 3, 4):
                piece = piece_for(WIDE, chunk, shelf)
                steps = batch_of(shelf, (9 + chunk, (chunk,) + piece))
                self.alone(without_chunk(WIDE, shelf, chunk), 3, steps)
                self.alone(rotten(WIDE, shelf, chunk, (0, 7, 0)), 3, steps)
        # A lacking one goes to the lowest free home, a wrong one stays in its own.
        cluster = rotten(without_chunk(without_chunk(WIDE, 1, 1), 1, 3), 1, 2, (1, 0, 0))
        steps = (batch_of(1, (10, (1,) + piece_for(WIDE, 1, 1))) + batch_of(1, (11, (2,) + piece_for(WIDE, 2, 1)))
                 + batch_of(1, (12, (3,) + piece_for(WIDE, 3, 1))))
        self.alone(cluster, 3, steps)
        low = with_block(without_chunk(WIDE, 1, 1), 1, 11, ())
        low = with_block(low, 1, 35, (2,) + piece_for(WIDE, 2, 1))
        self.alone(low, 3, batch_of(1, (10, (1,) + piece_for(WIDE, 1, 1))))
        self.alone(rotten(low, 1, 2, (2, 2, 2)), 3, batch_of(1, (10, (1,) + piece_for(WIDE, 1, 1)))
                   + batch_of(1, (35, (2,) + piece_for(WIDE, 2, 1))))

    def test_4_lacking_and_wrong_ones_of_a_chunk_in_the_order_of_shelves(self):
        for wrong, lacking in ((4, 1), (1, 4), (6, 0)):
            cluster = without_chunk(rotten(TALL, wrong, 2, (1, 0, 0)), lacking, 2)
            first, second = sorted((wrong, lacking))
            self.alone(cluster, 3, batch_of(first, (11, (2,) + piece_for(TALL, 2, first)))
                       + batch_of(second, (11, (2,) + piece_for(TALL, 2, second))))

    def test_4_a_renewed_shelf(self):
        cluster = renew(burn(WIDE, 3), 3)
        found = phases_of(cluster)
        self.assertEqual([len(phase) for phase in found], [0, 4, 0, 12, 0])
        self.assertEqual(found[1], batch_of(3, (9, root_of(WIDE))))
        self.assertEqual(found[3], sum((batch_of(3, (9 + chunk, (chunk,) + piece_for(WIDE, chunk, 3)))
                                        for chunk in (1, 2, 3)), ()))
        self.assertEqual(contents_of(mended_cluster(cluster)), contents_of(WIDE))

    def test_5_strays_and_left_roots(self):
        where = row_of(FEW, 2)[0]
        others = [shelf for shelf in ALL if shelf not in where]
        for shelf in others:
            cluster = stray(FEW, shelf, 2)
            place = free_homes(FEW[2][shelf])[0]
            self.alone(cluster, 4, batch_of(shelf, (place, ())))
            # Three of the shelves on which it is placed are enough; with two the stray piece stays.
            self.alone(burn(cluster, where[0]), 4, batch_of(shelf, (place, ())))
            self.alone(burn(cluster, where[0], where[2]), 4, ())
        left = with_block(WIDE, 5, 9, root_of(WIDE))
        self.alone(left, 4, batch_of(5, (9, ())))
        self.alone(stray(left, 5, 2), 4, batch_of(5, (9, ()), (10, ())))
        # A lesser root goes, too.
        old = with_block(FEW_LATER, 4, 9, (1, 1, 1))
        self.alone(old, 4, batch_of(4, (9, ())))

    def test_5_eight_in_a_batch(self):
        cluster = with_files(SIX, 5, (0, 1, 2, 3, 4), 40)[2]
        many = 0
        for chunk in named(cluster):
            cluster = stray(cluster, 5, chunk)
            many += 1
        cluster = with_block(cluster, 5, 9, root_of(cluster))
        self.assertGreater(many, 17)
        places, steps = [9] + list(range(10, 10 + many)), ()
        while places:
            steps += batch_of(5, *[(place, ()) for place in places[:8]])
            places = places[8:]
        self.alone(cluster, 4, steps)

    def test_5_no_shelf_in_use_stands(self):
        cluster = with_block(WIDE, 5, 9, root_of(WIDE))
        for chunk in (1, 2, 3):
            cluster = stray(cluster, 5, chunk)
        # ONES reads each chunk from one shelf, so that the last one that stands may be one that is not in use.
        ones = new_cluster(ONES, 7, tuple(range(7)), 9)
        ones = with_block(ones, 9, 9, root_of(ones))
        for chunk in named(ones):
            ones = stray(ones, 9, chunk)
        last = burn(ones, *range(7))
        self.assertEqual(meaning(last), meaning(ones))
        self.alone(last, 0, ())
        self.assertEqual(len(phases_of(renew(last, 3))[4]), 4 + len(named(ones)) * 2)
        # Four of a chunk's shelves burnt: its stray piece stays, and so does nothing else.
        self.alone(burn(cluster, 0, 1), 4, batch_of(5, *[(place, ()) for place in (9, 10, 11, 12)]))
        self.alone(burn(cluster, 0, 1, 2), 4, batch_of(5, (9, ())))

    def test_together(self):
        cluster = litter(rotten(without_chunk(FILES, 1, 21), 4, 3, (1, 1, 1)), 2, 9)
        chunk = [chunk for chunk in named(FILES) if 0 not in holders(FILES, chunk)][0]
        cluster = hide_root(stray(cluster, 0, chunk), 1, lesser_root(FILES))
        cluster = with_disk(cluster, 3, under_way(cluster[2][3]))
        found = phases_of(cluster)
        self.assertEqual([len(phase) for phase in found], [4, 4, 18 + 4, 8, 4])
        self.assertEqual(steps_to_mend(cluster), sum(found, ()))
        self.assertEqual((found, mended_cluster(cluster)), slow_mending(cluster)[:2])
        self.assertIs(is_mended(cluster), False)

    def test_by_words(self):
        seen = [0] * 5
        lost = 0
        for cluster in list(harmed(small_bases(), 10, 7)) + list(harmed(large_bases(), 3, 6)):
            gone, given = slow_lost(cluster)
            if gone:
                lost += 1
                self.assertIs(is_mended(cluster), False)
                for function in ASKED:
                    self.like(Lost, given, function, cluster)
                continue
            phases, end, put = slow_mending(cluster)
            if end is None:
                self.assertIs(is_mended(cluster), False)
                for function in ASKED:
                    self.like(Full, phases, function, cluster)
                continue
            seen = [many + bool(phase) for many, phase in zip(seen, phases)]
            self.assertEqual(phases_of(cluster), phases)
            self.assertEqual(steps_to_mend(cluster), sum(phases, ()))
            self.assertEqual(mended_cluster(cluster), end)
            self.assertEqual(givers_of(cluster), put)
            self.assertEqual(numbers_sent(cluster), slow_sent(cluster, put))
            self.assertIs(is_mended(cluster), not any(phases))
            self.assertIs(is_mended(end), True)
        self.assertGreater(min(seen), 5)
        self.assertGreater(lost, 5)


class Ends(Told):

    def test_what_is_mended(self):
        for cluster in list(readable(harmed(small_bases(), 8, 6))) + list(large_bases()):
            end = mended_cluster(cluster)
            used, width, parts = used_of(end), end[1], end[0][3]
            up = standing(end)
            self.assertEqual(up, standing(cluster))
            self.assertEqual(meaning(end), meaning(cluster))
            lots = {chunk: placed(chunk, used, width) for chunk in named(end)}
            for shelf in up:
                self.assertIs(is_quiet(end[2][shelf]), True)
                wanted = {chunk for chunk in lots if shelf in lots[chunk]}
                for chunk in wanted:
                    self.assertEqual(piece_of(end[2][shelf], chunk), piece_for(cluster, chunk, shelf))
                if shelf in used:
                    self.assertEqual(shelf_root(end[2][shelf]), root_of(cluster))
                if sum(at not in up for at in used) < width - parts + 1:
                    self.assertEqual(set(held(end[2][shelf])), wanted)
                    if shelf not in used:
                        self.assertEqual(shelf_root(end[2][shelf]), ())

    def test_what_is_not_mended(self):
        for cluster in (with_block(NEW, 0, 0, None), with_disk(NEW, 3, under_way(NEW[2][3])), litter(NEW, 1, 1),
                        without_chunk(NEW, 0, 1), rotten(NEW, 2, 3, (1, 0, 0)), hide_root(NEW, 0, ()),
                        renew(burn(NEW, 3), 3), stray(FEW, [at for at in ALL if at not in row_of(FEW, 2)[0]][0], 2),
                        with_block(WIDE, 5, 9, root_of(WIDE)), BURNT, burn(NEW, 0, 1)):
            self.assertIs(is_mended(cluster), False)
        for cluster in (NEW, burn(NEW, 2), burn(FILES, 2, 4), renew(burn(WIDE, 5), 5)):
            self.assertIs(is_mended(cluster), True)
        self.assertIs(self.by_name(is_mended, cluster=NEW), True)

    def full(self, cluster, chunk):
        """Mending tells Full with this chunk."""
        self.assertIs(is_cluster(cluster), True)
        self.assertIsNotNone(meaning(cluster))
        self.assertIs(is_mended(cluster), False)
        self.assertEqual(slow_mending(cluster), (chunk, None, None))
        for function in ASKED:
            self.like(Full, chunk, function, cluster)

    def test_full(self):
        away = [chunk for chunk in named(FILES) if 0 not in holders(FILES, chunk)]
        self.assertEqual(len(away), 6)
        for homes, strays, many, enough in ((20, 6, 5, False), (20, 5, 5, True), (21, 6, 5, True), (20, 6, 1, False),
                                            (20, 6, 9, False), (20, 5, 9, True), (22, 6, 3, True)):
            cluster = files_in(homes)
            gone = held(cluster[2][0])[1:1 + many]
            for chunk in gone:
                cluster = without_chunk(cluster, 0, chunk)
            for chunk in away[:strays]:
                cluster = stray(cluster, 0, chunk)
            left = len(free_homes(cluster[2][0]))
            self.assertIs(left >= many, enough)
            # A home that holds what is not named is freed ahead of phase 4, and one that is under way is mended.
            for more in (cluster, litter(cluster, 0, left), with_block(cluster, 3, 0, None)) if left else (cluster,):
                if enough:
                    self.assertIs(is_mended(mended_cluster(more)), True)
                    self.assertEqual(mended_cluster(more), slow_mending(more)[1])
                else:
                    self.full(more, gone[left])
        # Without a stray one too many there is a mending again.
        self.assertIs(is_mended(mended_cluster(without_chunk(cluster, 0, away[0]))), True)

    def test_lost_ahead_of_full(self):
        cluster, chunk = full_one()
        self.full(cluster, chunk)
        for shelf in holders(cluster, 40)[:3]:
            cluster = without_chunk(cluster, shelf, 40)
        for function in ASKED:
            self.like(Lost, 40, function, cluster)


class Givers(Told):

    def test_those_put_right_just_ahead(self):
        cluster = rotten(rotten(TALL, 0, 2, (1, 0, 0)), 1, 2, (1, 0, 0))
        self.assertEqual(givers_of(cluster), ((2, 0, (2, 3, 4)), (2, 1, (0, 2, 3))))
        self.assertEqual(numbers_sent(cluster), 6)
        cluster = rotten(rotten(TALL, 0, 2, (1, 0, 0)), 3, 2, (1, 0, 0))
        self.assertEqual(givers_of(cluster), ((2, 0, (1, 2, 4)), (2, 3, (0, 1, 2))))
        cluster = renew(burn(TALL, 6, 0), 0)
        self.assertEqual(givers_of(cluster), tuple((chunk, 0, (1, 2, 3)) for chunk in (1, 2, 3, 4)))
        self.assertEqual(self.by_name(givers_of, cluster=cluster), givers_of(cluster))
        self.assertEqual(self.by_name(numbers_sent, cluster=cluster), 12)
        # What was put right for another chunk is no right holder of this one.
        cluster = without_chunk(without_chunk(TALL, 0, 1), 1, 3)
        self.assertEqual(givers_of(cluster), ((1, 0, (1, 2, 3)), (3, 1, (0, 2, 3))))

    def test_strays_give_too(self):
        where = row_of(FEW, 2)[0]
        other = [shelf for shelf in ALL if shelf not in where][0]
        cluster = without_chunk(stray(FEW, other, 2), where[2], 2)
        givers = tuple(sorted([shelf for shelf in where if shelf != where[2]] + [other])[:3])
        self.assertEqual(givers_of(cluster), ((2, where[2], givers),))

    def test_fewer_than_d_right_holders(self):
        base = new_cluster(TIGHT, 5, (0, 1, 2, 3, 4), 9)
        cluster = renew(burn(base, 1, 4), 1, 4)
        self.assertEqual(givers_of(cluster), tuple(row for chunk in named(base)
                                                   for row in ((chunk, 1, ()), (chunk, 4, (0, 1, 2, 3)))))
        self.assertEqual(numbers_sent(cluster), len(named(base)) * (3 * 2 + 4))
        base = new_cluster(ONES, 7, tuple(range(7)), 9)
        cluster = burn(base, 0, 1, 2, 3, 4, 6)
        self.assertEqual((givers_of(cluster), numbers_sent(cluster)), ((), 0))
        cluster = renew(cluster, 0, 1, 2, 3, 4, 6)
        givers = {0: (), 1: (), 2: (), 3: (), 4: (), 6: (0, 1, 2, 3, 4, 5)}
        self.assertEqual(givers_of(cluster), tuple((chunk, shelf, givers[shelf]) for chunk in named(base)
                                                   for shelf in (0, 1, 2, 3, 4, 6)))
        self.assertEqual(numbers_sent(cluster), len(named(base)) * (5 * 6 + 6))

    def test_their_letters_tell_the_piece(self):
        seen = 0
        for cluster in readable(list(harmed(small_bases(), 6, 6)) + [renew(burn(FILES, 0, 3), 0, 3)]):
            scheme, here = cluster[0], cluster
            for phase in phases_of(cluster)[:3]:
                here = done_steps(here, phase)
            fourth, rows = phases_of(cluster)[3], givers_of(cluster)
            self.assertEqual(len(fourth), 4 * len(rows))
            total = 0
            for at, (chunk, shelf, givers) in enumerate(rows):
                right = right_holders(here, chunk)
                self.assertNotIn(shelf, right)
                self.assertEqual(givers, right[:scheme[4]] if len(right) >= scheme[4] else ())
                here = done_steps(here, fourth[4 * at:4 * at + 4])
                if givers:
                    sent = tuple(letter(scheme, piece_of(here[2][giver], chunk), shelf) for giver in givers)
                    self.assertEqual(mended(scheme, shelf, givers, sent), piece_of(here[2][shelf], chunk))
                    seen += 1
                total += scheme[4] if givers else scheme[3] * room_of(scheme)
            self.assertEqual(numbers_sent(cluster), total)
        self.assertGreater(seen, 40)


class Cuts(Told):

    def every_cut(self, cluster):
        """Cut anywhere the meaning stays; begun anew, and cut again, it ends just as if it had not been cut."""
        meant, end, steps = meaning(cluster), mended_cluster(cluster), steps_to_mend(cluster)
        dice = Dice(len(steps))
        for count in range(len(steps) + 1):
            for torn in (False, True):
                cut = cut_steps(cluster, steps, count, torn)
                self.assertIs(is_cluster(cut), True)
                self.assertEqual(meaning(cut), meant)
                self.assertEqual(mended_cluster(cut), end)
                for _ in range(2):
                    again = steps_to_mend(cut)
                    cut = cut_steps(cut, again, dice.below(len(again) + 1), dice.below(2) == 1)
                    self.assertEqual(meaning(cut), meant)
                self.assertEqual(mended_cluster(cut), end)
        self.assertEqual((steps_to_mend(end), is_mended(end), mended_cluster(end)), ((), True, end))

    def test_all_phases(self):
        cluster = litter(rotten(without_chunk(WIDE, 1, 1), 3, 3, (0, 0, 2)), 0, 9)
        cluster = stray(with_block(hide_root(cluster, 2, ()), 5, 9, root_of(cluster)), 5, 2)
        for shelf in (0, 4):
            cluster = with_disk(cluster, shelf, under_way(cluster[2][shelf]))
        self.assertEqual([len(phase) for phase in phases_of(cluster)], [8, 4, 18 + 4, 8, 6])
        self.every_cut(cluster)
        self.every_cut(burn(cluster, 5))

    def test_harmed_ones(self):
        for cluster in readable(harmed(small_bases(), 2, 6)):
            if 0 < len(steps_to_mend(cluster)) < 90:
                self.every_cut(cluster)

    def test_all_of_a_shelf_anew(self):
        cluster = renew(burn(NEW, 2), 2)
        self.every_cut(cluster)
        self.every_cut(cut_batch(cluster, 2, 15, (77, 9, 9, 9), 2, True))
        self.every_cut(cut_batch(cluster, 2, 15, (77, 9, 9, 9), 1, True))

    def test_every_cut_of_every_cut(self):
        cluster = hide_root(without_chunk(NEW, 1, 3), 1, ())
        end, steps = mended_cluster(cluster), steps_to_mend(cluster)
        self.assertEqual(len(steps), 8)
        for count in range(9):
            for torn in (False, True):
                cut = cut_steps(cluster, steps, count, torn)
                again = steps_to_mend(cut)
                for more in range(len(again) + 1):
                    for ragged in (False, True):
                        twice = cut_steps(cut, again, more, ragged)
                        self.assertEqual(meaning(twice), meaning(NEW))
                        self.assertEqual(mended_cluster(twice), end)


class Wrong(Told):

    def test_clusters(self):
        for value in NO_CLUSTERS:
            for function in ASKED + (is_mended,):
                self.given(InvalidCluster, value, function, value)

    def test_lost(self):
        for cluster in (BURNT, (FOUR, 4, (((),) * 11,) * 4), burn(NEW, 0, 1)):
            self.assertIs(is_mended(cluster), False)
            for function in ASKED:
                self.tells(Lost, ("given", None), function, cluster)
        cluster = FILES
        for shelf in holders(FILES, 21)[:3]:
            cluster = without_chunk(cluster, shelf, 21)
        self.assertIsNotNone(meta_of(cluster))
        for function in ASKED:
            self.like(Lost, 21, function, cluster)

    def test_by_name(self):
        cluster = renew(burn(NEW, 2), 2)
        for function in ASKED:
            self.assertEqual(self.by_name(function, cluster=cluster), function(cluster))
        self.assertEqual(quiet(mended_cluster(cluster)), [0, 1, 2, 3])
