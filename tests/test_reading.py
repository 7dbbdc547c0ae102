"""What lies in a cluster: points 35 and 10 and the heading lettermend/reading.py."""

import itertools

from lettermend.clustererrors import InvalidCluster
from lettermend.clusters import is_cluster, new_cluster, standing
from lettermend.codes import pieces_of, read_from
from lettermend.errors import InvalidChunk, InvalidShelf
from lettermend.files import cut_up
from lettermend.meanings import is_meaning
from lettermend.packing import packed
from lettermend.placement import placed
from lettermend.reading import (chunk_message, holders, meaning, meta_of, named, piece_for, right_holders, root_of)
from lettermend.schemes import room_of, size_of
from tests.making import (FOUR, ONES, ROOMY, SIX, TIGHT, WIDEST, cluster_of, cluster_schemes, place_of, rotten,
                          under_way, with_block, with_disk, with_meta, without_chunk)
from tests.support import ODD, Told, rows_like
from tests.test_clusters import BURNT, CLUSTERS, NEW, NO_CLUSTERS

ALL = tuple(range(6))


def changes(scheme, seed):
    """What makes another piece of any: a row of the room that is not noughts."""
    row = rows_like(scheme[0], room_of(scheme), seed)
    return row if any(row) else row[:-1] + (1,)


def slow_message(scheme, shelves, pieces):
    """The message of point 35, looked for by all lots of K shelves; None."""
    parts, found = scheme[3], set()
    for lot in itertools.combinations(range(len(shelves)), parts):
        message = read_from(scheme, tuple(shelves[at] for at in lot), tuple(pieces[at] for at in lot))
        if message is not None:
            all_pieces = pieces_of(scheme, message)
            unlike = sum(all_pieces[shelf] != piece for shelf, piece in zip(shelves, pieces))
            if 2 * unlike <= len(shelves) - parts:
                found.add(message)
    return found.pop() if len(found) == 1 else None


def file_of(scheme, numbers, chunks):
    """The node of META of a file with these numbers in these chunks, and the pairs of a chunk and its message."""
    return ("file", len(numbers), chunks), list(zip(chunks, cut_up(scheme, numbers)))


def with_files(scheme=SIX, width=5, used=ALL, homes=30, version=3, marks=((2, 7, "taken"),)):
    """A cluster with files in its tree: its meaning, and itself."""
    size, prime = size_of(scheme), scheme[0]
    numbers = [rows_like(prime, length, length + 1) for length in (size + 1, 3, 0, min(60, 2 * size))]
    one, more = file_of(scheme, numbers[0], (21, 40))
    two, extra = file_of(scheme, numbers[1], (3,))
    big, others = file_of(scheme, numbers[3], (7, 10 ** 9))
    tree = (("a", ("room", (("b", one), ("c", two)))), ("d", ("file", 0, ())), ("e", one), ("f", big))
    many = len(cut_up(scheme, packed((used, marks, tree))))
    chunks = tuple(range(50, 50 + many))
    cluster = with_meta(scheme, width, homes, version, (used, marks, tree), chunks, more + extra + others)
    view = (("a", ("room", (("b", ("file", numbers[0])), ("c", ("file", numbers[1]))))), ("d", ("file", ())),
            ("e", ("file", numbers[0])), ("f", ("file", numbers[3])))
    return (version, used, marks, view), (version, used, marks, tree), cluster


MEANT, META, FILES = with_files()
CHUNKS = tuple(sorted((3, 7, 21, 40, 10 ** 9) + root_of(FILES)[2:]))


class Chunks(Told):

    def test_new_clusters(self):
        for cluster in CLUSTERS[:1] + CLUSTERS[3:7]:
            scheme, width, _ = cluster
            root = root_of(cluster)
            used = meta_of(cluster)[1]
            numbers = packed((used, (), ()))
            messages = cut_up(scheme, numbers)
            self.assertEqual(root, (1, len(numbers)) + tuple(range(1, len(messages) + 1)))
            self.assertEqual(named(cluster), root[2:])
            self.assertEqual(meta_of(cluster), (1, used, (), ()))
            self.assertEqual(meaning(cluster), (1, used, (), ()))
            for chunk, message in enumerate(messages, start=1):
                self.assertEqual(chunk_message(cluster, chunk), message)
                self.assertEqual(holders(cluster, chunk), placed(chunk, used, width))
                self.assertEqual(right_holders(cluster, chunk), placed(chunk, used, width))
                for shelf, piece in enumerate(pieces_of(scheme, message)):
                    self.assertEqual(piece_for(cluster, chunk, shelf), piece)

    def test_chunks_that_nobody_holds(self):
        for cluster in (NEW, BURNT, FILES):
            for chunk in (1000, 10 ** 300):
                self.assertEqual((holders(cluster, chunk), right_holders(cluster, chunk)), ((), ()))
                self.assertIsNone(chunk_message(cluster, chunk))
                self.assertIsNone(piece_for(cluster, chunk, 0))

    def test_as_many_wrong_ones_as_are_borne_and_one_more(self):
        for scheme in cluster_schemes((31,), 6) + [(97, "letters", 7, 3, 3), (97, "room", 8, 3, 4), ONES]:
            parts, many = scheme[3], scheme[2]
            message = rows_like(scheme[0], size_of(scheme), many)
            shelves = tuple(range(many))
            cluster = cluster_of(scheme, many, 2, shelves, (), ((9, message),))
            for holding in range(parts, many + 1):
                lot = shelves[many - holding:]
                lying = cluster
                for shelf in shelves[:many - holding]:
                    lying = without_chunk(lying, shelf, 9)
                borne = (holding - parts) // 2
                for wrong in range(borne + 2):
                    spoilt = lying
                    for shelf in lot[:2 * wrong:2] if 2 * wrong <= holding else lot[:wrong]:
                        spoilt = rotten(spoilt, shelf, 9, changes(scheme, shelf + 1))
                    rotted = [shelf for shelf in lot if spoilt[2][shelf] != lying[2][shelf]]
                    self.assertIs(is_cluster(spoilt), True)
                    self.assertEqual(holders(spoilt, 9), lot)
                    pieces = [spoilt[2][shelf][place_of(spoilt, shelf, 9)][1:] for shelf in lot]
                    told = slow_message(scheme, lot, pieces)
                    self.assertEqual(chunk_message(spoilt, 9), told)
                    if wrong <= borne:
                        self.assertEqual(told, message)
                        self.assertEqual(right_holders(spoilt, 9), tuple(at for at in lot if at not in rotted))
                        for shelf, piece in enumerate(pieces_of(scheme, message)):
                            self.assertEqual(piece_for(spoilt, 9, shelf), piece)
                    else:
                        self.assertNotEqual(told, message)
            for shelf in shelves[:many - parts + 1]:
                cluster = without_chunk(cluster, shelf, 9)
            self.assertEqual(len(holders(cluster, 9)), parts - 1)
            self.assertEqual(right_holders(cluster, 9), ())
            self.assertIsNone(chunk_message(cluster, 9))
            self.assertIsNone(piece_for(cluster, 9, many - 1))

    def test_each_wrong_one(self):
        message = (1, 2, 3, 4, 5, 6)
        cluster = cluster_of(SIX, 6, 2, ALL, (), ((9, message),))
        for shelf in ALL:
            for more in ((1, 0, 0), (0, 0, 1), (30, 30, 30)):
                spoilt = rotten(cluster, shelf, 9, more)
                self.assertEqual(right_holders(spoilt, 9), ALL[:shelf] + ALL[shelf + 1:])
                self.assertEqual(chunk_message(spoilt, 9), message)
                for other in ALL[:shelf] + ALL[shelf + 1:]:
                    self.assertEqual(chunk_message(with_disk(spoilt, other, None), 9), message)
                    twice = rotten(spoilt, other, 9, (0, 5, 1))
                    self.assertEqual((chunk_message(twice, 9), right_holders(twice, 9)), (None, ()))
                    self.assertEqual(holders(twice, 9), ALL)

    def test_another_message_may_be_told(self):
        # Of three pieces of "letters" with K 3 no wrong one is borne: they may be no message's, or another one's.
        message, other = (1, 2, 3, 4, 5, 6), (7, 8, 9, 10, 11, 12)
        both = [cluster_of(FOUR, 4, 2, (0, 1, 2, 3), (), ((9, told),)) for told in (message, other)]
        lying = [without_chunk(cluster, 3, 9) for cluster in both]
        for chosen in itertools.product((0, 1), repeat=3):
            cluster = FOUR, 4, tuple(lying[which][2][shelf] for shelf, which in enumerate(chosen)) + lying[0][2][3:]
            pieces = [cluster[2][shelf][10][1:] for shelf in range(3)]
            self.assertEqual(chunk_message(cluster, 9), slow_message(FOUR, (0, 1, 2), pieces))
        self.assertEqual(chunk_message(lying[1], 9), other)

    def test_holders_wherever_it_is_placed(self):
        message = (1, 2, 3, 4, 5, 6)
        pieces = pieces_of(SIX, message)
        where = placed(8, ALL, 4)
        strays = [shelf for shelf in ALL if shelf not in where]
        cluster = cluster_of(SIX, 4, 3, ALL, (), ((8, message),))
        self.assertEqual(holders(cluster, 8), where)
        for shelf in strays:
            cluster = with_block(cluster, shelf, 12, (8,) + pieces[shelf])
        self.assertEqual((holders(cluster, 8), right_holders(cluster, 8)), (ALL, ALL))
        for shelf in where[:3]:
            cluster = with_disk(cluster, shelf, None)
        self.assertEqual(holders(cluster, 8), tuple(shelf for shelf in ALL if shelf not in where[:3]))
        self.assertEqual(chunk_message(cluster, 8), message)
        for shelf in ALL:
            self.assertEqual(piece_for(cluster, 8, shelf), pieces[shelf])
        self.assertIsNone(chunk_message(with_disk(cluster, strays[0], None), 8))

    def test_contents_alone_are_read(self):
        for shelf in range(4):
            cluster = with_disk(NEW, shelf, under_way(NEW[2][shelf]))
            for chunk in (1, 2, 3, 8):
                self.assertEqual(holders(cluster, chunk), holders(NEW, chunk))
                self.assertEqual(right_holders(cluster, chunk), right_holders(NEW, chunk))
                self.assertEqual(chunk_message(cluster, chunk), chunk_message(NEW, chunk))
            self.assertEqual(meaning(cluster), meaning(NEW))
            self.assertEqual(root_of(cluster), root_of(NEW))
            torn = with_disk(NEW, shelf, (None,) + NEW[2][shelf][1:])
            self.assertEqual(meaning(torn), meaning(NEW))

    def test_by_name(self):
        self.assertEqual(self.by_name(holders, cluster=NEW, chunk=2), (0, 1, 2, 3))
        self.assertEqual(self.by_name(right_holders, cluster=NEW, chunk=2), (0, 1, 2, 3))
        self.assertEqual(self.by_name(chunk_message, cluster=NEW, chunk=2), (1, 2, 1, 3, 1, 0))
        self.assertEqual(self.by_name(piece_for, cluster=NEW, chunk=1, shelf=3), (2, 20, 21))
        self.assertEqual(self.by_name(root_of, cluster=NEW), (1, 14, 1, 2, 3))
        self.assertEqual(self.by_name(named, cluster=NEW), (1, 2, 3))
        self.assertEqual(self.by_name(meta_of, cluster=NEW), (1, (0, 1, 2, 3), (), ()))
        self.assertEqual(self.by_name(meaning, cluster=NEW), (1, (0, 1, 2, 3), (), ()))


class Roots(Told):

    def test_the_greatest(self):
        self.assertEqual(root_of(BURNT), ())
        self.assertEqual(root_of((FOUR, 4, (((),) * 11,) * 4)), ())
        for lot in itertools.chain.from_iterable(itertools.combinations(range(4), many) for many in range(4)):
            cluster = NEW
            for shelf in lot:
                cluster = with_disk(cluster, shelf, None)
            self.assertEqual(root_of(cluster), (1, 14, 1, 2, 3))
        for shelf in range(4):
            for root in ((2, 1, 1), (2, 14, 1, 2, 3), (10, 1, 1)):
                cluster = with_block(NEW, shelf, 9, root)
                self.assertEqual(root_of(cluster), root)
                self.assertEqual(root_of(with_disk(cluster, shelf, None)), (1, 14, 1, 2, 3))
                more = with_block(cluster, (shelf + 1) % 4, 9, (11, 1, 1))
                self.assertEqual(root_of(more), (11, 1, 1))
        # A lesser root elsewhere, or on all others, changes nothing.
        cluster = NEW
        for shelf in (0, 1, 3):
            cluster = with_block(cluster, shelf, 9, ())
        self.assertEqual((root_of(cluster), meaning(cluster)), (root_of(NEW), meaning(NEW)))


class Metas(Told):

    def test_with_files(self):
        for arguments in ((), (TIGHT, 5, (0, 1, 2, 3, 4)), (ROOMY, 9, tuple(range(10))), (WIDEST, 10, tuple(range(10))),
                          (SIX, 4, (0, 2, 3, 5)), (ONES, 7, (0, 1, 2, 4, 5, 8, 9))):
            meant, meta, cluster = with_files(*arguments)
            self.assertIs(is_cluster(cluster), True)
            self.assertEqual(meta_of(cluster), meta)
            self.assertEqual(meaning(cluster), meant)
            self.assertIs(is_meaning(meant), True)
            self.assertEqual(named(cluster), tuple(sorted({3, 7, 21, 40, 10 ** 9, *root_of(cluster)[2:]})))
        self.assertEqual(named(FILES), CHUNKS)

    def test_as_long_as_enough_right_ones_are_left(self):
        for lot in itertools.combinations(ALL, 2):
            cluster = with_disk(with_disk(FILES, lot[0], None), lot[1], None)
            self.assertEqual(meaning(cluster), MEANT)
        for chunk in CHUNKS:
            where = holders(FILES, chunk)
            self.assertEqual(where, placed(chunk, ALL, 5))
            for shelf in where:
                cluster = rotten(FILES, shelf, chunk, (3, 0, 1))
                self.assertEqual(meaning(cluster), MEANT)
                self.assertEqual(right_holders(cluster, chunk), tuple(other for other in where if other != shelf))

    def test_a_lost_chunk(self):
        root = root_of(FILES)
        for chunk in CHUNKS:
            where = holders(FILES, chunk)
            lost = FILES
            for shelf in where[:2]:
                lost = without_chunk(lost, shelf, chunk)
            self.assertEqual(meaning(lost), MEANT)
            spoilt = rotten(lost, where[2], chunk, (1, 0, 0))
            lost = without_chunk(lost, where[2], chunk)
            for cluster in (lost, spoilt):
                self.assertEqual(right_holders(cluster, chunk), ())
                self.assertIsNone(meaning(cluster))
                self.assertEqual(meta_of(cluster), None if chunk in root[2:] else META)
                self.assertEqual(named(cluster), None if chunk in root[2:] else CHUNKS)

    def untold(self, cluster):
        """It is a cluster of which META is not told."""
        self.assertIs(is_cluster(cluster), True)
        self.assertEqual((meta_of(cluster), named(cluster), meaning(cluster)), (None, None, None))

    def test_no_root(self):
        self.untold(BURNT)
        self.untold((FOUR, 4, (((),) * 11,) * 4))
        cluster = FILES
        for shelf in ALL:
            cluster = with_block(cluster, shelf, 9, ())
        self.untold(cluster)

    def test_length_and_chunks(self):
        used, size = (0, 1, 2, 3), 6
        numbers = packed((used, (), ()))
        messages = list(enumerate(cut_up(FOUR, numbers + (0,) * 6), start=1))
        self.assertEqual((len(numbers), len(messages)), (14, 4))
        for length in (1, 6, 12, 13, 14, 15, 18, 19, 24, 25, 420, 10 ** 300):
            for chunks in ((1,), (1, 2), (1, 2, 3), (1, 2, 3, 4), (2, 3, 4), (1, 2, 4)):
                cluster = cluster_of(FOUR, 4, 9, used, (1, length) + chunks, messages)
                if (length, chunks) == (14, (1, 2, 3)):
                    self.assertEqual(meta_of(cluster), (1, used, (), ()))
                else:
                    self.untold(cluster)
        # As many numbers as fill their messages, and one message more that is not wanted.
        for many in range(4, 11):
            used = tuple(range(many))
            scheme = (31, "letters", many, 3, 3)
            numbers = packed((used, (), ()))
            whole = -(-len(numbers) // size)
            for named_ones in (whole - 1, whole, whole + 1):
                messages = list(enumerate(cut_up(scheme, numbers + (0,) * 12), start=1))
                root = (1, len(numbers)) + tuple(range(1, named_ones + 1))
                cluster = cluster_of(scheme, many, 9, used, root, messages)
                if named_ones == whole:
                    self.assertEqual(meaning(cluster), (1, used, (), ()))
                else:
                    self.untold(cluster)

    def test_no_packing(self):
        used = (0, 1, 2, 3)
        right = packed((used, (), ()))
        for numbers in (right[:-1] + (1,), right + (0,), right[:-1], (0,) * 14, right[1:], (30,) * 14,
                        (1, 4, 1, 1, 1, 0, 1, 2, 1, 3, 1, 0, 1, 0), (1, 4, 1, 0, 1, 1, 1, 2, 1, 2, 1, 0, 1, 0)):
            messages = list(enumerate(cut_up(FOUR, numbers), start=1))
            root = (1, len(numbers)) + tuple(range(1, len(messages) + 1))
            self.untold(cluster_of(FOUR, 4, 9, used, root, messages))

    def test_shelves_in_use(self):
        for used in ((0,), (0, 1), (0, 1, 2), (1, 2, 3), (0, 1, 2, 4), (0, 1, 2, 3, 4), (0, 2, 3, 9), tuple(range(10))):
            numbers = packed((used, (), ()))
            messages = list(enumerate(cut_up(FOUR, numbers), start=1))
            root = (1, len(numbers)) + tuple(range(1, len(messages) + 1))
            self.untold(cluster_of(FOUR, 4, 9, (0, 1, 2, 3), root, messages))
        for width in (4, 5, 6):
            for many in range(3, 8):
                used = tuple(range(many))
                numbers = packed((used, (), ()))
                messages = list(enumerate(cut_up(SIX, numbers), start=1))
                root = (1, len(numbers)) + tuple(range(1, len(messages) + 1))
                cluster = cluster_of(SIX, width, 9, ALL, root, messages)
                if width <= many <= 6:
                    self.assertEqual(meta_of(cluster), (1, used, (), ()))
                else:
                    self.untold(cluster)

    def test_as_many_chunks_of_a_file_as_its_length_wants(self):
        used = (0, 1, 2, 3)
        for length in (0, 1, 5, 6, 7, 12, 13, 60):
            for many in range(0, 12):
                if many > length or (many == 0) != (length == 0):
                    continue
                chunks = tuple(range(100, 100 + many))
                files = [(chunk, (chunk % 31,) * 6) for chunk in chunks]
                for node in (("file", length, chunks), ("room", (("b", ("file", length, chunks)),))):
                    meta = used, ((0, 1, "done"),), (("a", node),)
                    wanted = len(cut_up(FOUR, packed(meta)))
                    cluster = with_meta(FOUR, 4, 40, 5, meta, tuple(range(1, wanted + 1)), files)
                    if many == -(-length // 6):
                        self.assertEqual(meta_of(cluster), (5,) + meta)
                        self.assertIs(is_meaning(meaning(cluster)), True)
                    else:
                        self.untold(cluster)

    def test_chunks_of_no_file(self):
        cluster = with_block(FILES, 0, 39, (99, 1, 2, 3))
        self.assertEqual((named(cluster), meaning(cluster)), (CHUNKS, MEANT))
        self.assertEqual(holders(cluster, 99), (0,))
        self.assertIsNone(chunk_message(cluster, 99))

    def test_a_file_in_metas_own_chunk(self):
        used = (0, 1, 2, 3)
        meta = used, (), (("a", ("file", 6, (1,))),)
        numbers = packed(meta)
        cluster = with_meta(FOUR, 4, 9, 1, meta, tuple(range(1, 1 + len(cut_up(FOUR, numbers)))))
        self.assertEqual(named(cluster), root_of(cluster)[2:])
        self.assertEqual(meaning(cluster), (1, used, (), (("a", ("file", numbers[:6])),)))


class Wrong(Told):

    def test_clusters(self):
        for value in NO_CLUSTERS:
            for function, more in ((root_of, ()), (holders, (1,)), (right_holders, (1,)), (chunk_message, (1,)),
                                   (piece_for, (1, 0)), (meta_of, ()), (named, ()), (meaning, ())):
                self.given(InvalidCluster, value, function, value, *more)

    def test_chunks_and_shelves(self):
        for value in ODD + (0, -1, -10 ** 30):
            for function in (holders, right_holders, chunk_message):
                self.given(InvalidChunk, value, function, NEW, value)
            self.given(InvalidChunk, value, piece_for, NEW, value, 0)
        for value in ODD + (-1, 4, 10 ** 30):
            self.given(InvalidShelf, value, piece_for, NEW, 1, value)
            self.given(InvalidShelf, value, piece_for, BURNT, 1000, value)
        burnt = with_disk(new_cluster(SIX, 5, ALL, 9), 5, None)
        self.assertEqual(standing(burnt), ALL[:5])
        self.assertEqual(piece_for(burnt, 1, 5), pieces_of(SIX, chunk_message(burnt, 1))[5])
        for function in (holders, right_holders, chunk_message):
            self.in_order(function, (("cluster", NEW, NEW[:2], InvalidCluster, "given"),
                                     ("chunk", 1, 0, InvalidChunk, "given")))
        self.in_order(piece_for, (("cluster", NEW, NEW[:2], InvalidCluster, "given"),
                                  ("chunk", 1, 0, InvalidChunk, "given"), ("shelf", 3, 4, InvalidShelf, "given")))
