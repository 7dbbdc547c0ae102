"""Clusters: point 34 and the heading lettermend/clusters.py."""

from lettermend.clustererrors import InvalidCluster, InvalidSteps, TooFewHomes
from lettermend.clusters import contents_of, cut_steps, done_steps, is_cluster, new_cluster, standing
from lettermend.disks import run_writes
from lettermend.errors import InvalidCount, InvalidHomes, InvalidScheme, InvalidTorn, InvalidUsed, InvalidWidth
from lettermend.journals import batch_steps, contents, disk_mending
from lettermend.placement import placed
from lettermend.shelves import drop_batch, held, is_shelf, put_batch, root_batch
from tests.making import (FOUR, ONES, ROOMY, SIX, TIGHT, WIDEST, cluster_schemes, homes_wanted, slow_new, under_way,
                          with_block, with_disk)
from tests.support import ODD, Told
from tests.test_disks import WRONG_BLOCKS
from tests.test_histories import WRONG_COUNTS, WRONG_TORN
from tests.test_journals import NOT_SOUND, WRONG_DISKS, disk_of

NEW = new_cluster(FOUR, 4, (0, 1, 2, 3), 9)
LAME = with_disk(new_cluster(SIX, 5, (0, 1, 2, 4, 5), 20), 2, None)
BURNT = (FOUR, 4, (None,) * 4)
CLUSTERS = (NEW, LAME, BURNT, new_cluster(TIGHT, 5, (0, 1, 2, 3, 4), 5), new_cluster(ONES, 7, tuple(range(3, 10)), 4),
            new_cluster(WIDEST, 10, tuple(range(10)), 1), new_cluster(ROOMY, 9, tuple(range(10)), 60),
            with_disk(NEW, 1, under_way(NEW[2][1])), with_disk(LAME, 5, under_way(LAME[2][5])),
            with_disk(NEW, 0, (None,) + NEW[2][0][1:]))
NO_SCHEMES = ODD + ((29, "letters", 4, 3, 3), (11, "letters", 4, 3, 3), (31, "letters", 4, 2, 2), (31, "room", 4, 2, 2),
                    (31, "letters", 6, 1, 5), (31, "letters", 6, 2, 3), (31, "letters", 3, 3, 3),
                    (33, "letters", 4, 3, 3),
                    (31, "room", 5, 3, 3), (31, "letters", 4, 3), [31, "letters", 4, 3, 3], (31, "Letters", 4, 3, 3),
                    (True, "letters", 4, 3, 3))
NO_CLUSTERS = ODD + (5, (), NEW[:2], NEW + (1,), list(NEW), (FOUR, 4, list(NEW[2])), (FOUR, 4, NEW[2][:3]),
                     (FOUR, 4, NEW[2] + (None,)), (FOUR, 4, ()), (FOUR, 3) + NEW[2:], (FOUR, 5) + NEW[2:],
                     (FOUR, 4, (5,) + NEW[2][1:]), (FOUR, 4, NEW[2][:2] + (False, 5)))


def slow_steps(cluster, steps, count, torn):
    """The cluster after the steps, shelf by shelf, by the words of point 34."""
    disks = list(cluster[2])
    for at, (shelf, place, block) in enumerate(steps):
        if at < count:
            disks[shelf] = run_writes(disks[shelf], ((place, block),), 1, False)
        elif at == count and torn:
            disks[shelf] = run_writes(disks[shelf], ((place, block),), 0, True)
    return cluster[:2] + (tuple(disks),)


def steps_on(cluster, shelf, batch):
    """The steps of a batch on a shelf."""
    return tuple((shelf, place, block) for place, block in batch_steps(cluster[2][shelf], batch))


class Kinds(Told):

    def test_right_ones(self):
        for cluster in CLUSTERS:
            self.assertIs(is_cluster(cluster), True)
        for scheme in cluster_schemes((31, 97), 7):
            for width in range(scheme[4] + 1, scheme[2] + 1):
                self.assertIs(is_cluster((scheme, width, (None,) * scheme[2])), True)
                self.assertIs(is_cluster((scheme, width, (disk_of((), (), ((), ())),) * scheme[2])), True)
        self.assertIs(self.by_name(is_cluster, value=NEW), True)

    def none(self, value):
        """The value is no cluster, and all functions say so."""
        self.assertIs(is_cluster(value), False)
        for function, more in ((standing, ()), (contents_of, ()), (done_steps, ((),)), (cut_steps, ((), 0, False))):
            self.given(InvalidCluster, value, function, value, *more)

    def test_schemes_and_widths(self):
        for value in NO_CLUSTERS:
            self.none(value)
        for scheme in NO_SCHEMES:
            self.none((scheme, 4, NEW[2]))
            self.none((scheme, 4, (None,) * 6))
        for scheme in cluster_schemes((31,), 6):
            disks = (None,) * scheme[2]
            for width in ODD + (0, scheme[3], scheme[4], scheme[2] + 1, 10 ** 30, -1):
                self.none((scheme, width, disks))
            self.none((scheme, scheme[2], disks + (None,)))
            self.none((scheme, scheme[2], disks[1:]))

    def test_shelves(self):
        for value in WRONG_DISKS + NOT_SOUND + (disk_of((), (), ((1,), ())), disk_of((), (), ((), (1,))), 5, (), True,
                                                disk_of((), (), ((), (1, 1, 1, 1), (1, 1, 1, 1)))):
            if value is not None:
                for shelf in (0, 3):
                    self.none(with_disk(BURNT, shelf, value))
                    self.none(with_disk(NEW, shelf, value))

    def test_homes(self):
        for homes in (8, 10, 60):
            for shelf in range(4):
                self.none(with_disk(NEW, shelf, ((),) * (10 + homes)))
        self.assertIs(is_cluster(with_disk(NEW, 2, ((),) * 19)), True)
        self.assertIs(is_cluster(with_disk(BURNT, 2, ((),) * 70)), True)
        self.none(with_disk(with_disk(BURNT, 2, ((),) * 70), 1, ((),) * 69))

    def test_roots_of_one_version(self):
        for root in ((1, 14, 1, 2, 4), (1, 13, 1, 2, 3), (1, 14, 1, 2), (1, 14, 1, 2, 3, 4)):
            for shelf in range(4):
                self.none(with_block(NEW, shelf, 9, root))
                disk = with_block(NEW, shelf, 9, None)[2][shelf]
                self.none(with_disk(NEW, shelf, ((1,), (9,) + root) + disk[2:]))
        for root in ((), (2, 14, 1, 2, 4), (3, 1, 1), (1, 14, 1, 2, 3)):
            for shelf in range(4):
                self.assertIs(is_cluster(with_block(NEW, shelf, 9, root)), True)
        two = with_block(with_block(NEW, 0, 9, (2, 5, 7)), 3, 9, (2, 5, 8))
        self.none(two)
        self.assertIs(is_cluster(with_disk(two, 3, None)), True)
        self.assertIs(is_cluster(with_block(two, 3, 9, (2, 5, 7))), True)

    def test_pieces(self):
        for piece in ((1,), (1, 2), (1, 2, 3, 4), (31, 0, 0), (0, 0, 31), (0, 97, 0), (10 ** 300, 0, 0), (0,) * 9):
            for shelf in range(4):
                self.none(with_block(NEW, shelf, 18, (9,) + piece))
                self.none(with_block(NEW, shelf, 10, (9,) + piece))
                disk = with_block(NEW, shelf, 18, None)[2][shelf]
                self.none(with_disk(NEW, shelf, ((1,), (18, 9) + piece) + disk[2:]))
                disk = with_block(NEW, shelf, 18, (9,) + piece)[2][shelf]
                self.assertIs(is_cluster(with_disk(NEW, shelf, ((1,), (18, 9, 30, 30, 30)) + disk[2:])), True)
        self.assertIs(is_cluster(with_block(NEW, 1, 18, (10 ** 300, 30, 0, 30))), True)
        self.assertIs(is_cluster(with_block(CLUSTERS[3], 1, 14, (9, 30, 30))), True)
        self.none(with_block(CLUSTERS[3], 1, 14, (9, 30, 30, 30)))
        self.assertIs(is_cluster(with_block(CLUSTERS[5], 1, 10, (9,) + (96,) * 9)), True)
        self.none(with_block(CLUSTERS[5], 1, 10, (9,) + (96,) * 8 + (97,)))


class New(Told):

    def test_by_words(self):
        for scheme in cluster_schemes((31, 97), 6) + [ONES, WIDEST, ROOMY]:
            for width in range(scheme[4] + 1, scheme[2] + 1):
                shelves = tuple(range(scheme[2]))
                for used in {shelves, shelves[:width], shelves[-width:]}:
                    homes = homes_wanted(scheme, width, used)
                    for many in (homes, homes + 1, 60):
                        cluster = new_cluster(scheme, width, used, many)
                        self.assertEqual(cluster, slow_new(scheme, width, used, many))
                        self.assertIs(is_cluster(cluster), True)
                    for fewer in range(1, homes):
                        self.tells(TooFewHomes, (), new_cluster, scheme, width, used, fewer)

    def test_where_all_lies(self):
        cluster = new_cluster(SIX, 4, (0, 2, 3, 4, 5), 7)
        for shelf, disk in enumerate(cluster[2]):
            self.assertIs(is_shelf(disk), True)
            if shelf == 1:
                self.assertEqual(disk, ((),) * 17)
                continue
            lots = {chunk: placed(chunk, (0, 2, 3, 4, 5), 4) for chunk in (1, 2, 3)}
            self.assertEqual(held(disk), tuple(chunk for chunk in lots if shelf in lots[chunk]))
            self.assertEqual(disk[:3], ((), (9, 1, 16, 1, 2, 3), ()))
            self.assertEqual([block[:1] for block in disk[10:]], [(chunk,) for chunk in held(disk)] +
                             [()] * (7 - len(held(disk))))
        self.assertEqual(self.by_name(new_cluster, scheme=FOUR, width=4, used=(0, 1, 2, 3), homes=9), NEW)

    def test_homes_just_enough_and_one_too_few(self):
        self.assertEqual(homes_wanted(FOUR, 4, (0, 1, 2, 3)), 3)
        new_cluster(FOUR, 4, (0, 1, 2, 3), 3)
        self.tells(TooFewHomes, (), new_cluster, FOUR, 4, (0, 1, 2, 3), 2)
        self.tells(TooFewHomes, (), new_cluster, scheme=FOUR, width=4, used=(0, 1, 2, 3), homes=1)

    def test_wrong(self):
        used = (0, 1, 2, 3)
        for scheme in NO_SCHEMES:
            self.given(InvalidScheme, scheme, new_cluster, scheme, 4, used, 9)
        for width in ODD + (0, 1, 3, 7, -1, 10 ** 30):
            self.given(InvalidWidth, width, new_cluster, SIX, width, (0, 1, 2, 3, 4, 5), 9)
        for value in ODD + (5, (), (0, 1, 2), (0, 1, 2, 6), (-1, 0, 1, 2), (0, 1, 2, 2), (0, 1, 3, 2), (0, 1, 2, True),
                            (False, 1, 2, 3), [0, 1, 2, 3], (0, 1, 2, 3, 4, 5, 6), (0,) * 4000, (0, 1, 2, "3"),
                            (0, 1, 2, 10 ** 30), (0, 1, 2, (3,)), (0, 1, 2, None)):
            self.given(InvalidUsed, value, new_cluster, SIX, 4, value, 9)
        self.given(InvalidUsed, used, new_cluster, SIX, 5, used, 9)
        for value in ODD + (0, -1, 61, 10 ** 30):
            self.given(InvalidHomes, value, new_cluster, FOUR, 4, used, value)
        self.in_order(new_cluster, (("scheme", FOUR, (31, "letters", 4, 2, 2), InvalidScheme, "given"),
                                    ("width", 4, 3, InvalidWidth, "given"),
                                    ("used", used, used[:3], InvalidUsed, "given"),
                                    ("homes", 9, 0, InvalidHomes, "given")))


class Looks(Told):

    def test_standing_and_contents(self):
        for cluster in CLUSTERS:
            self.assertEqual(standing(cluster), tuple(at for at, disk in enumerate(cluster[2]) if disk is not None))
            told = tuple(None if disk is None else contents(disk) for disk in cluster[2])
            self.assertEqual(contents_of(cluster), told)
        self.assertEqual(self.by_name(standing, cluster=LAME), (0, 1, 3, 4, 5))
        self.assertEqual(self.by_name(contents_of, cluster=BURNT), (None,) * 4)
        self.assertEqual(contents_of(CLUSTERS[7]), contents_of(NEW))


class Steps(Told):

    def test_by_words(self):
        for cluster in CLUSTERS:
            shelves = standing(cluster)
            if not shelves:
                continue
            last = len(cluster[2][shelves[0]]) - 1
            steps = tuple((shelves[at * 3 % len(shelves)], (0, 9, last, 1)[at % 4], ((), (at,), (0,) * 90)[at % 3])
                          for at in range(14))
            for many in (0, 1, 14):
                for count in list(range(many + 2)) + [10 ** 30]:
                    for torn in (False, True):
                        self.assertEqual(cut_steps(cluster, steps[:many], count, torn),
                                         slow_steps(cluster, steps[:many], count, torn))
                self.assertEqual(done_steps(cluster, steps[:many]), slow_steps(cluster, steps[:many], many, False))
        self.assertEqual(done_steps(BURNT, ()), BURNT)
        self.assertEqual(self.by_name(done_steps, cluster=NEW, steps=((3, 18, (9, 0, 0, 0)),))[2][3][18], (9, 0, 0, 0))
        self.assertIsNone(self.by_name(cut_steps, cluster=NEW, steps=((3, 18, (9,)),), count=0, torn=True)[2][3][18])
        self.assertEqual(done_steps(NEW, ((1, 5, (7,)),) * 4000), with_block(NEW, 1, 5, (7,)))

    def test_batches_lead_from_clusters_to_clusters(self):
        for start in CLUSTERS[:1] + CLUSTERS[3:4]:
            cluster, steps, ends = start, (), []
            room = len(start[2][1][10]) - 1
            for shelf, batch in ((1, put_batch(start[2][1], 77, (5,) * room)), (2, drop_batch(start[2][2], 1)),
                                 (0, root_batch(start[2][0], (2, 5, 77))), (3, ((9, (2, 5, 77)), (10, ()), (11, ()))),
                                 (1, ((9, (2, 5, 77)),))):
                more = steps_on(cluster, shelf, batch)
                ends.append((len(steps) + len(batch) + 1, shelf, batch))
                steps += more
                cluster = done_steps(cluster, more)
            for count in range(len(steps) + 2):
                for torn in (False, True):
                    cut = cut_steps(start, steps, count, torn)
                    self.assertIs(is_cluster(cut), True)
                    told = [list(blocks) for blocks in contents_of(start)]
                    for end, shelf, batch in ends:
                        for place, block in batch if count >= end else ():
                            told[shelf][place - 9] = block
                    self.assertEqual(contents_of(cut), tuple(map(tuple, told)))
                    mending = tuple((shelf, place, block) for shelf, disk in enumerate(cut[2])
                                    for place, block in disk_mending(disk))
                    self.assertEqual(contents_of(done_steps(cut, mending)), contents_of(cut))

    def test_what_is_no_cluster_any_more(self):
        for step in ((0, 0, (9,)), (0, 9, (1, 1)), (0, 18, (0, 5))):
            after = done_steps(NEW, (step,))
            self.assertEqual(after, with_block(NEW, *step))
            self.assertIs(is_cluster(after), False)
        torn = cut_steps(NEW, ((2, 10, ()),), 0, True)
        self.assertEqual(torn, with_block(NEW, 2, 10, None))
        self.assertIs(is_cluster(torn), False)

    def test_no_steps(self):
        one = (0, 18, ())
        calls = ((done_steps, ()), (cut_steps, (1, True)))
        for function, more in calls:
            for value in tuple(value for value in ODD if not isinstance(value, tuple)) + (5, [one], {one: 1}):
                self.index(InvalidSteps, None, function, LAME, value, *more)
            for value in ODD + (5, (), (0, 18), (0, 18, (), 1), [0, 18, ()], (2, 18, ()), (6, 18, ()), (-1, 18, ()),
                                (0, 30, ()), (0, -1, ()), (0, 10 ** 30, ()), (10 ** 30, 9, ()), (True, 18, ()),
                                (0, True, ()), ("0", 18, ()), (0, "18", ()), (None, 18, ()), (0, None, ()), (18, ())):
                self.index(InvalidSteps, 0, function, LAME, (value,), *more)
                self.index(InvalidSteps, 0, function, LAME, (value, value), *more)
                self.index(InvalidSteps, 2, function, LAME, (one, one, value, one), *more)
            for block in WRONG_BLOCKS + (None,):
                self.index(InvalidSteps, 1, function, LAME, (one, (0, 18, block)), *more)
            for value in ODD:
                self.index(InvalidSteps, 1, function, LAME, (one, (value, 18, ())), *more)
                self.index(InvalidSteps, 1, function, LAME, (one, (0, value, ())), *more)
            self.index(InvalidSteps, 0, function, LAME, one, *more)
            self.index(InvalidSteps, 0, function, BURNT, (one,), *more)
        self.assertEqual(done_steps(LAME, ((0, 29, (0,) * 90),))[2][0][29], (0,) * 90)

    def test_no_cuts(self):
        for value in WRONG_COUNTS:
            self.given(InvalidCount, value, cut_steps, NEW, (), value, False)
        for value in WRONG_TORN:
            self.given(InvalidTorn, value, cut_steps, NEW, (), 0, value)
        self.in_order(done_steps, (("cluster", NEW, NEW[:2], InvalidCluster, "given"),
                                   ("steps", (), (5,), InvalidSteps, 0)))
        self.in_order(cut_steps, (("cluster", NEW, NEW[:2], InvalidCluster, "given"),
                                  ("steps", (), [], InvalidSteps, None),
                                  ("count", 0, -1, InvalidCount, "given"), ("torn", True, 1, InvalidTorn, "given")))
