"""Surveys and the spare: points 42 and 43 and the heading lettermend/surveys.py."""

import itertools

from lettermend.clustererrors import InvalidCluster, Lost
from lettermend.clusters import new_cluster, standing
from lettermend.reading import meaning, meta_of, named, root_of
from lettermend.shelves import shelf_root
from lettermend.surveys import losing_lot, spare, survey
from tests.harming import burn, harmed, hide_root, large_bases, litter, renew, small_bases, stray
from tests.making import FOUR, SIX, rotten, under_way, with_disk, without_chunk
from tests.slow import slow_lost, slow_spare, slow_survey
from tests.support import Told
from tests.test_clusters import BURNT, NEW, NO_CLUSTERS
from tests.test_reading import ALL, CHUNKS, FILES

WIDE = new_cluster(SIX, 5, (0, 1, 2, 3, 4), 16)


class Surveys(Told):

    def test_new_clusters(self):
        rows = survey(WIDE)
        self.assertEqual(rows, tuple((chunk, (0, 1, 2, 3, 4), (), (), ()) for chunk in (1, 2, 3)))
        self.assertEqual(self.by_name(survey, cluster=NEW), tuple((at, (0, 1, 2, 3), (), (), ()) for at in (1, 2, 3)))

    def test_right_wrong_lacking_and_stray(self):
        cluster = new_cluster(SIX, 4, ALL, 16)
        (chunk, where, _, _, _), = [row for row in survey(cluster) if row[0] == 2]
        others = [shelf for shelf in ALL if shelf not in where]
        one = stray(cluster, others[0], chunk)
        self.assertEqual(survey(one)[1], (2, tuple(sorted(where + (others[0],))), (), (), (others[0],)))
        two = stray(one, others[1], chunk, True)
        self.assertEqual(survey(two)[1], (2, tuple(sorted(where + (others[0],))), (others[1],), (), tuple(others)))
        lame = renew(burn(two, where[1]), where[1])
        right = tuple(sorted((where[0], where[2], where[3], others[0])))
        self.assertEqual(survey(lame)[1], (2, right, (others[1],), (where[1],), tuple(others)))
        gone = burn(two, where[0])
        right = tuple(sorted((where[1], where[2], where[3], others[0])))
        self.assertEqual(survey(gone)[1], (2, right, (others[1],), (), tuple(others)))
        spoilt = rotten(one, where[2], chunk, (0, 0, 4))
        right = tuple(sorted((where[0], where[1], where[3], others[0])))
        self.assertEqual(survey(spoilt)[1], (2, right, (where[2],), (), (others[0],)))

    def test_by_words(self):
        seen = {word: 0 for word in ("right", "wrong", "lacking", "stray", "lost", "none")}
        for cluster in list(harmed(small_bases(), 12, 6)) + list(harmed(large_bases(), 3, 5)):
            lost, given = slow_lost(cluster)
            if lost:
                for function in (survey, spare, losing_lot):
                    self.like(Lost, given, function, cluster)
                seen["lost" if given else "none"] += 1
                continue
            rows = survey(cluster)
            self.assertEqual(rows, slow_survey(cluster))
            self.assertEqual(spare(cluster), slow_spare(cluster))
            for at, word in enumerate(("right", "wrong", "lacking", "stray"), start=1):
                seen[word] += any(row[at] for row in rows)
            for _, right, wrong, _, _ in rows:
                self.assertGreaterEqual(len(right) - len(wrong), cluster[0][3])
        self.assertGreater(min(seen[word] for word in ("right", "wrong", "lacking", "stray", "none")), 5)

    def test_what_is_not_named_and_what_is_under_way(self):
        self.assertEqual(survey(litter(FILES, 3, 9)), survey(FILES))
        for shelf in ALL:
            self.assertEqual(survey(with_disk(FILES, shelf, under_way(FILES[2][shelf]))), survey(FILES))
        self.assertEqual(tuple(row[0] for row in survey(FILES)), CHUNKS)

    def test_the_least_lost_chunk(self):
        for first, second in itertools.combinations((3, 7, 21, 40, 10 ** 9), 2):
            cluster = FILES
            for chunk in (second, first):
                for shelf in [row for row in survey(FILES) if row[0] == chunk][0][1][:3]:
                    cluster = without_chunk(cluster, shelf, chunk)
            self.assertIsNotNone(meta_of(cluster))
            for function in (survey, spare, losing_lot):
                self.like(Lost, first, function, cluster)
        cluster = FILES
        for chunk in (3, root_of(FILES)[3]):
            for shelf in [row for row in survey(FILES) if row[0] == chunk][0][1][:3]:
                cluster = without_chunk(cluster, shelf, chunk)
        for function in (survey, spare, losing_lot):
            self.tells(Lost, ("given", None), function, cluster)


class Spares(Told):

    def test_told(self):
        self.assertEqual(spare(WIDE), 2)
        self.assertEqual(spare(burn(WIDE, 2)), 1)
        self.assertEqual(spare(burn(WIDE, 2, 0)), 0)
        self.assertEqual(spare(burn(WIDE, 5)), 2)
        self.assertEqual(spare(rotten(WIDE, 1, 2, (1, 0, 0))), 0)
        self.assertEqual(self.by_name(spare, cluster=NEW), 1)
        tall = new_cluster((31, "letters", 7, 3, 3), 7, tuple(range(7)), 9)
        self.assertEqual([spare(tall), spare(rotten(tall, 0, 1, (1, 0, 0)))], [4, 2])
        self.assertEqual(spare(rotten(rotten(tall, 0, 1, (1, 0, 0)), 1, 1, (0, 5, 0))), 0)
        self.assertEqual(spare(rotten(rotten(tall, 0, 1, (1, 0, 0)), 1, 2, (0, 5, 0))), 2)

    def test_a_root_on_few_shelves(self):
        cluster = WIDE
        for many, shelf in enumerate((4, 2, 0, 1)):
            cluster = hide_root(cluster, shelf, ())
            left = 4 - many
            roots = tuple(at for at in (0, 1, 2, 3, 4) if shelf_root(cluster[2][at]))
            self.assertEqual(len(roots), left)
            self.assertEqual(spare(cluster), min(2, left - 1))
            self.assertEqual(losing_lot(cluster), roots if left <= 3 else (0, 1, 2))
        self.assertEqual(self.by_name(losing_lot, cluster=cluster), (3,))
        # A lesser root is none, and so is that of a shelf that burnt.
        two = hide_root(hide_root(FILES, 0, (1, 1, 1)), 5, ())
        self.assertEqual(spare(burn(two, 1)), 1)
        self.assertEqual(spare(burn(two, 1, 2)), 0)

    def test_the_lot_of_roots_is_told_ahead_of_that_of_a_chunk(self):
        cluster = hide_root(hide_root(WIDE, 0, ()), 1, ())
        self.assertEqual((spare(cluster), losing_lot(cluster)), (2, (2, 3, 4)))
        cluster = hide_root(hide_root(burn(WIDE, 3), 0, ()), 1, ())
        self.assertEqual((spare(cluster), losing_lot(cluster)), (1, (2, 4)))
        cluster = hide_root(burn(WIDE, 3), 0, ())
        self.assertEqual((spare(cluster), losing_lot(cluster)), (1, (0, 1)))

    def test_the_least_chunk_on_few_shelves(self):
        for chunk in (2, 3):
            cluster = without_chunk(WIDE, 0, chunk)
            self.assertEqual((spare(cluster), losing_lot(cluster)), (1, (1, 2)))
            cluster = without_chunk(cluster, 2, chunk)
            self.assertEqual((spare(cluster), losing_lot(cluster)), (0, (1,)))
        cluster = without_chunk(without_chunk(WIDE, 0, 2), 3, 3)
        self.assertEqual((spare(cluster), losing_lot(cluster)), (1, (1, 2)))
        cluster = without_chunk(without_chunk(cluster, 4, 3), 0, 1)
        self.assertEqual((spare(cluster), losing_lot(cluster)), (0, (0,)))

    def every_lot(self, cluster):
        """Every lot of so many shelves leaves the meaning, and the losing one changes it."""
        meant, many = meaning(cluster), spare(cluster)
        for size in range(many + 1):
            for lot in itertools.combinations(standing(cluster), size):
                self.assertEqual(meaning(burn(cluster, *lot)), meant)
        lot = losing_lot(cluster)
        self.assertEqual(len(lot), many + 1)
        self.assertEqual(tuple(sorted(set(lot))), lot)
        self.assertNotEqual(meaning(burn(cluster, *lot)), meant)

    def test_every_lot(self):
        for cluster in harmed(small_bases(), 7, 5):
            if meaning(cluster) is not None:
                self.every_lot(cluster)
        for cluster in list(large_bases())[:3]:
            self.every_lot(cluster)

    def test_one_rot_if_two_are_spare(self):
        for cluster in (WIDE, FILES, hide_root(WIDE, 1, ())):
            self.assertGreaterEqual(spare(cluster), 2)
            for chunk in named(cluster)[:6]:
                for shelf in standing(cluster):
                    if shelf in [row for row in survey(cluster) if row[0] == chunk][0][1]:
                        self.assertEqual(meaning(rotten(cluster, shelf, chunk, (3, 0, 1))), meaning(cluster))


class Wrong(Told):

    def test_clusters(self):
        for value in NO_CLUSTERS:
            for function in (survey, spare, losing_lot):
                self.given(InvalidCluster, value, function, value)
        for function in (survey, spare, losing_lot):
            self.tells(Lost, ("given", None), function, BURNT)
            self.tells(Lost, ("given", None), function, (FOUR, 4, (((),) * 11,) * 4))
