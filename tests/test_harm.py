"""Burning, renewing and rot: point 41 and the heading lettermend/harm.py."""

from lettermend.clustererrors import InvalidCluster, NotStanding, Standing
from lettermend.clusters import is_cluster, standing
from lettermend.errors import InvalidChunk, InvalidPiece, InvalidShelf, NotHeld, NotMended
from lettermend.harm import burnt, renewed, rotten
from lettermend.journals import contents
from lettermend.reading import holders, meaning
from lettermend.schemes import room_of
from lettermend.shelves import held, piece_of, shelf_root
from tests.harming import burn, cut_batch, large_bases, small_bases
from tests.making import place_of, under_way, with_block, with_disk
from tests.support import ODD, Told, rows_like
from tests.test_clusters import BURNT, CLUSTERS, LAME, NEW, NO_CLUSTERS

BASES = list(small_bases()) + list(large_bases())


class Burning(Told):

    def test_one_shelf_goes_for_ever(self):
        for cluster in BASES + [NEW, LAME]:
            for shelf in standing(cluster):
                found = burnt(cluster, shelf)
                self.assertEqual(found, cluster[:2] + (cluster[2][:shelf] + (None,) + cluster[2][shelf + 1:],))
                self.assertIs(is_cluster(found), True)
                self.given(NotStanding, shelf, burnt, found, shelf)
                fresh = renewed(found, shelf)
                self.assertEqual((held(fresh[2][shelf]), shelf_root(fresh[2][shelf])), ((), ()))
        self.assertEqual(self.by_name(burnt, cluster=NEW, shelf=2), with_disk(NEW, 2, None))

    def test_whatever_its_disk_is_like(self):
        for disk in (under_way(NEW[2][1]), (None,) + NEW[2][1][1:]):
            self.assertEqual(burnt(with_disk(NEW, 1, disk), 1), with_disk(NEW, 1, None))
        cluster = NEW
        for shelf in range(4):
            cluster = burnt(cluster, shelf)
        self.assertEqual(cluster, BURNT)


class Renewing(Told):

    def test_as_many_homes_as_the_others(self):
        for cluster in BASES:
            homes = len(cluster[2][0]) - 10
            for shelf in standing(cluster):
                found = renewed(burnt(cluster, shelf), shelf)
                self.assertEqual(found, with_disk(cluster, shelf, ((),) * (10 + homes)))
                self.assertIs(is_cluster(found), True)
                self.given(Standing, shelf, renewed, found, shelf)
                self.given(Standing, shelf, renewed, cluster, shelf)

    def test_one_home_if_no_other_one_stands(self):
        one = renewed(BURNT, 3)
        self.assertEqual(one, with_disk(BURNT, 3, ((),) * 11))
        self.assertEqual(renewed(one, 0), with_disk(one, 0, ((),) * 11))
        self.assertEqual(self.by_name(renewed, cluster=LAME, shelf=2), with_disk(LAME, 2, ((),) * 30))
        last = burn(NEW, 0, 1, 2)
        self.assertEqual(renewed(last, 1)[2][1], ((),) * 19)
        self.assertEqual(renewed(burn(last, 3), 1)[2][1], ((),) * 11)


class Rot(Told):

    def test_the_chunk_stays_and_the_piece_is_another_one(self):
        for cluster in BASES:
            many = room_of(cluster[0])
            for shelf in standing(cluster):
                for chunk in held(cluster[2][shelf]):
                    piece = rows_like(cluster[0][0], many, chunk + shelf)
                    found = rotten(cluster, shelf, chunk, piece)
                    place = place_of(cluster, shelf, chunk)
                    self.assertEqual(found, with_block(cluster, shelf, place, (chunk,) + piece))
                    self.assertEqual(piece_of(found[2][shelf], chunk), piece)
                    self.assertEqual(holders(found, chunk), holders(cluster, chunk))
                    self.assertIs(is_cluster(found), True)

    def test_the_same_piece_again(self):
        for shelf in range(4):
            for chunk in (1, 2, 3):
                piece = piece_of(NEW[2][shelf], chunk)
                self.assertEqual(rotten(NEW, shelf, chunk, piece), NEW)
                for edge in ((0, 0, 0), (30, 30, 30)):
                    self.assertEqual(piece_of(rotten(NEW, shelf, chunk, edge)[2][shelf], chunk), edge)

    def test_a_chunk_that_is_not_named(self):
        cluster = with_block(NEW, 2, 17, (10 ** 300, 1, 2, 3))
        found = rotten(cluster, 2, 10 ** 300, (3, 2, 1))
        self.assertEqual(found, with_block(NEW, 2, 17, (10 ** 300, 3, 2, 1)))
        self.assertEqual(meaning(found), meaning(NEW))
        self.assertEqual(self.by_name(rotten, cluster=cluster, shelf=2, chunk=10 ** 300, piece=(3, 2, 1)), found)

    def test_a_disk_that_is_not_quiet(self):
        for disk in (under_way(NEW[2][1]), (None,) + NEW[2][1][1:]):
            cluster = with_disk(NEW, 1, disk)
            self.assertEqual(contents(disk), contents(NEW[2][1]))
            for chunk in (1, 2, 99):
                self.given(NotMended, disk[0], rotten, cluster, 1, chunk, (0, 0, 0))
            self.given(NotStanding, 0, rotten, burn(cluster, 0), 0, 1, (0, 0, 0))
            self.given(NotHeld, 99, rotten, cluster, 0, 99, (0, 0, 0))
        for count, head in ((0, ()), (1, ()), (2, (1,)), (3, (1,)), (4, ())):
            cluster = cut_batch(NEW, 3, 10, (1, 5, 5, 5), count, False)
            self.assertEqual(cluster[2][3][0], head)
            if head:
                self.like(NotMended, head, rotten, cluster, 3, 1, (0, 0, 0))
            else:
                self.assertEqual(piece_of(rotten(cluster, 3, 1, (0, 0, 0))[2][3], 1), (0, 0, 0))

    def test_no_head_slot_or_root_rots(self):
        found = rotten(NEW, 0, 1, (9, 9, 9))
        changed = [place for place, (one, other) in enumerate(zip(NEW[2][0], found[2][0])) if one != other]
        self.assertEqual(changed, [10])


class Wrong(Told):

    def test_clusters_and_shelves(self):
        for value in NO_CLUSTERS:
            self.given(InvalidCluster, value, burnt, value, 0)
            self.given(InvalidCluster, value, renewed, value, 0)
            self.given(InvalidCluster, value, rotten, value, 0, 1, (0, 0, 0))
        for cluster, most in ((NEW, 4), (LAME, 6), (BURNT, 4), (CLUSTERS[5], 10)):
            for value in ODD + (-1, most, 10 ** 30, "0", (0,)):
                self.given(InvalidShelf, value, burnt, cluster, value)
                self.given(InvalidShelf, value, renewed, cluster, value)
                self.given(InvalidShelf, value, rotten, cluster, value, 1, (0, 0, 0))

    def test_chunks_and_pieces(self):
        for value in ODD + (0, -1, -10 ** 30, "1"):
            self.given(InvalidChunk, value, rotten, NEW, 0, value, (0, 0, 0))
        for value in ODD + (5, (), (1, 2), (1, 2, 3, 4), (1, 2, 31), (-1, 2, 3), [1, 2, 3], (1, 2, True), (1, 2, "3"),
                            (1, 2, None), (1, 2, (3,)), (10 ** 300, 1, 1), "123"):
            self.given(InvalidPiece, value, rotten, NEW, 0, 1, value)
            self.given(InvalidPiece, value, rotten, LAME, 2, 99, value)
        tight = CLUSTERS[3]
        for piece in ((1,), (1, 2, 3), (31, 0)):
            self.given(InvalidPiece, piece, rotten, tight, 0, 1, piece)
        self.assertEqual(piece_of(rotten(tight, 0, 1, (30, 0))[2][0], 1), (30, 0))

    def test_what_is_told_last_in_its_order(self):
        torn = with_disk(LAME, 0, under_way(LAME[2][0]))
        self.given(NotStanding, 2, rotten, torn, 2, 999, (0, 0, 0))
        self.given(NotMended, torn[2][0][0], rotten, torn, 0, 999, (0, 0, 0))
        self.given(NotHeld, 999, rotten, LAME, 0, 999, (0, 0, 0))
        self.like(NotHeld, 10 ** 300, rotten, torn, 1, 10 ** 300, (0, 0, 0))
        self.in_order(rotten, (("cluster", NEW, NEW[:2], InvalidCluster, "given"),
                               ("shelf", 0, 4, InvalidShelf, "given"), ("chunk", 1, 0, InvalidChunk, "given"),
                               ("piece", (0, 0, 0), (0, 0), InvalidPiece, "given")))
        for function, cluster in ((burnt, NEW), (renewed, burn(NEW, 0))):
            self.in_order(function, (("cluster", cluster, NEW[:2], InvalidCluster, "given"),
                                     ("shelf", 0, -1, InvalidShelf, "given")))
        self.given(InvalidChunk, 0, rotten, LAME, 2, 0, (0, 0, 0))
        self.given(InvalidPiece, (), rotten, LAME, 2, 1, ())
