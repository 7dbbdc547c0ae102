"""Clusters that came to harm, always the same ones: for the tests of surveys, mending, requests and what follows."""

from lettermend.clusters import cut_steps, is_cluster, new_cluster, standing
from lettermend.codes import pieces_of
from lettermend.disks import fresh_disk
from lettermend.files import cut_up
from lettermend.journals import batch_steps
from lettermend.packing import packed
from lettermend.placement import placed
from lettermend.reading import chunk_message, holders, meaning, meta_of, named, root_of
from lettermend.schemes import room_of
from lettermend.shelves import free_homes, held, home_of
from tests.making import (FOUR, ONES, ROOMY, SIX, TIGHT, WIDEST, rotten, under_way, with_block, with_disk, with_meta,
                          without_chunk)
from tests.slow import slow_mending
from tests.support import rows_like
from tests.test_reading import FILES, changes, with_files


FAR = (31, "letters", 10, 3, 3)


class Dice:
    """Numbers that look mixed, always the same ones for a seed."""

    def __init__(self, seed):
        self.now = seed * 7919 + 101

    def below(self, many):
        """A number below this one."""
        self.now = (self.now * 1103515245 + 12345) % 2147483648
        return self.now // 65536 % many

    def one_of(self, things):
        """One of the things."""
        return things[self.below(len(things))]


def slow_mended(cluster):
    """The cluster behind its whole mending."""
    return slow_mending(cluster)[1]


def burn(cluster, *shelves):
    """The cluster with these shelves burnt."""
    for shelf in shelves:
        cluster = with_disk(cluster, shelf, None)
    return cluster


def renew(cluster, *shelves):
    """The cluster with fresh disks in the place of these shelves."""
    many = [len(disk) for disk in cluster[2] if disk is not None][0]
    for shelf in shelves:
        cluster = with_disk(cluster, shelf, fresh_disk(many - 10))
    return cluster


def lesser_root(cluster):
    """A root less than that of the cluster, of an earlier version, or of the same LENGTH and chunks with version 1."""
    root = root_of(cluster)
    return (root[0] - 1,) + root[1:] if root[0] > 1 else ()


def hide_root(cluster, shelf, block):
    """The cluster with another root on a quiet shelf, or none."""
    return with_block(cluster, shelf, 9, block)


def stray(cluster, shelf, chunk, wrong=False):
    """The cluster with a piece of a named chunk on a quiet shelf that does not hold it, right or wrong."""
    place = free_homes(cluster[2][shelf])
    piece = pieces_of(cluster[0], chunk_message(cluster, chunk))[shelf]
    cluster = with_block(cluster, shelf, place[0], (chunk,) + piece) if place else cluster
    return rotten(cluster, shelf, chunk, changes(cluster[0], chunk + shelf)) if wrong and place else cluster


def litter(cluster, shelf, many):
    """The cluster with so many pieces of chunks that are not named in free homes of a quiet shelf, as far as there are."""
    for at, place in enumerate(free_homes(cluster[2][shelf])[-many:]):
        piece = rows_like(cluster[0][0], room_of(cluster[0]), at + shelf)
        cluster = with_block(cluster, shelf, place, (5000 + 10 * place + shelf,) + piece)
    return cluster


def cut_batch(cluster, shelf, place, block, count, torn):
    """The cluster with a batch of one on a quiet shelf, run to the cut."""
    steps = batch_steps(cluster[2][shelf], ((place, block),))
    return cut_steps(cluster, tuple((shelf,) + step for step in steps), count, torn)


def quiet(cluster):
    """The standing shelves whose disks are quiet."""
    return [shelf for shelf in standing(cluster) if cluster[2][shelf][0] == ()]


def one_harm(cluster, dice):
    """The cluster with one harm more; it need not be readable."""
    calm = quiet(cluster)
    kind = dice.below(11)
    if kind == 0 and standing(cluster):
        return burn(cluster, dice.one_of(standing(cluster)))
    if kind == 1:
        gone = [shelf for shelf, disk in enumerate(cluster[2]) if disk is None]
        return renew(cluster, dice.one_of(gone)) if gone and standing(cluster) else cluster
    if not calm or meaning(cluster) is None:
        return cluster
    shelf, chunk = dice.one_of(calm), dice.one_of(named(cluster))
    if kind == 2 and shelf in holders(cluster, chunk):
        return rotten(cluster, shelf, chunk, changes(cluster[0], chunk + shelf))
    if kind == 3 and shelf in holders(cluster, chunk):
        return without_chunk(cluster, shelf, chunk)
    if kind in (4, 9, 10) and shelf not in holders(cluster, chunk):
        return stray(cluster, shelf, chunk, dice.below(4) == 0)
    if kind == 5:
        return litter(cluster, shelf, dice.one_of((1, 2, 9, 17)))
    if kind == 6:
        return hide_root(cluster, shelf, dice.one_of(((), lesser_root(cluster))))
    if kind == 7:
        return with_disk(cluster, shelf, dice.one_of((under_way(cluster[2][shelf]), (None,) + cluster[2][shelf][1:])))
    if kind == 8 and home_of(cluster[2][shelf], chunk) is not None:
        place = home_of(cluster[2][shelf], chunk)
        return cut_batch(cluster, shelf, place, (), dice.below(5), dice.below(2) == 1)
    return cluster


def small_bases():
    """Mended clusters of few shelves, some of them with files and marks."""
    yield new_cluster(FOUR, 4, (0, 1, 2, 3), 14)
    yield new_cluster(SIX, 5, (0, 1, 2, 3, 4), 16)
    yield new_cluster(SIX, 4, (0, 2, 3, 4, 5), 16)
    yield new_cluster(TIGHT, 5, (0, 1, 2, 3, 4), 14)
    yield new_cluster(SIX, 4, (0, 1, 3, 5), 3)
    yield new_cluster(SIX, 4, (0, 1, 2, 3, 4, 5), 4)
    for scheme, width, used in ((SIX, 5, tuple(range(6))), (SIX, 4, (0, 2, 3, 5)), (TIGHT, 5, (0, 1, 2, 3, 4))):
        yield with_files(scheme, width, used, 34)[2]


def large_bases():
    """Mended clusters of ten shelves."""
    yield new_cluster(ONES, 7, tuple(range(9)), 30)
    yield new_cluster(WIDEST, 10, tuple(range(10)), 20)
    yield new_cluster(ROOMY, 9, tuple(range(10)), 20)
    yield with_files(ONES, 8, (0, 1, 2, 4, 5, 7, 8, 9), 60)[2]
    yield with_files(ROOMY, 9, tuple(range(10)), 60)[2]


def harmed(bases, seeds, most):
    """Each base with up to so many harms, for each seed; some of them are no more readable."""
    for at, base in enumerate(bases):
        for seed in range(seeds):
            dice = Dice(seed + 1000 * at)
            cluster = base
            for _ in range(1 + dice.below(most)):
                cluster = one_harm(cluster, dice)
            yield cluster


def readable(clusters):
    """Those of the clusters that are readable and have a mending."""
    for cluster in clusters:
        if meaning(cluster) is not None and slow_mending(cluster)[1] is not None:
            yield cluster


def used_of(cluster):
    """The shelves in use."""
    return meta_of(cluster)[1]


def squeezed(cluster, homes):
    """The cluster with other homes, what lies in them as low as there are; None if there are too few."""
    disks = []
    for disk in cluster[2]:
        if disk is not None:
            blocks = tuple(block for block in disk[10:] if block)
            if len(blocks) > homes:
                return None
            disk = disk[:10] + blocks + ((),) * (homes - len(blocks))
        disks.append(disk)
    return cluster[:2] + (tuple(disks),)


def files_in(homes):
    """The cluster with files whose shelves have so many homes."""
    found = squeezed(FILES, homes)
    assert is_cluster(found) and meaning(found) == meaning(FILES)
    return found


def full_one():
    """A readable cluster whose mending tells Full, and the chunk that it tells."""
    cluster = files_in(20)
    gone = held(cluster[2][0])[1:6]
    away = [chunk for chunk in named(cluster) if 0 not in holders(cluster, chunk)]
    for chunk in gone:
        cluster = without_chunk(cluster, 0, chunk)
    for chunk in away:
        cluster = stray(cluster, 0, chunk)
    return cluster, gone[4]


def narrow_one():
    """A mended cluster of which shelf 9, in use, is burnt and has too few homes, and the first chunk without a home."""
    used = tuple(range(10))
    likely = [chunk for chunk in range(1, 300) if 9 in placed(chunk, used, 4)]
    tree = (("a", ("file", 60, tuple(likely[:10]))),)
    many = len(cut_up(FAR, packed((used, (), tree))))
    own = tuple(likely[10:10 + many])
    cluster = with_meta(FAR, 4, 60, 3, (used, (), tree), own, tuple((chunk, (chunk % 31,) * 6) for chunk in likely[:10]))
    homes = max(len(held(disk)) for disk in cluster[2][:9])
    assert homes < len(held(cluster[2][9]))
    return squeezed(burn(cluster, 9), homes), held(cluster[2][9])[homes]
