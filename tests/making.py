"""Clusters made for tests by the words of points 34 and 35: any META, any chunks, any harm."""

from lettermend.codes import pieces_of
from lettermend.disks import fresh_disk, run_writes
from lettermend.files import cut_up
from lettermend.journals import batch_steps
from lettermend.packing import packed
from lettermend.placement import placed
from lettermend.schemes import size_of
from lettermend.shelves import put_batch, root_batch
from tests.support import all_schemes

FOUR, SIX, TIGHT = (31, "letters", 4, 3, 3), (31, "letters", 6, 3, 3), (31, "room", 5, 3, 4)
ONES, WIDEST, ROOMY = (31, "letters", 10, 1, 6), (97, "letters", 10, 9, 9), (97, "room", 10, 5, 8)


def cluster_schemes(primes, most):
    """All schemes of point 34 with these primes and up to so many shelves."""
    return [scheme for scheme in all_schemes(primes, most) if scheme[0] >= 31 and size_of(scheme) >= 6]


def with_batch(disk, batch):
    """The quiet disk after the batch."""
    steps = batch_steps(disk, batch)
    return run_writes(disk, steps, len(steps), False)


def slow_new(scheme, width, used, homes):
    """A new cluster by the words of point 34."""
    disks = [fresh_disk(homes) for _ in range(scheme[2])]
    numbers = packed((used, (), ()))
    messages = cut_up(scheme, numbers)
    for chunk, message in enumerate(messages, start=1):
        pieces = pieces_of(scheme, message)
        for shelf in placed(chunk, used, width):
            disks[shelf] = with_batch(disks[shelf], put_batch(disks[shelf], chunk, pieces[shelf]))
    root = (1, len(numbers)) + tuple(range(1, len(messages) + 1))
    for shelf in used:
        disks[shelf] = with_batch(disks[shelf], root_batch(disks[shelf], root))
    return scheme, width, tuple(disks)


def homes_wanted(scheme, width, used):
    """How many chunks of a new cluster lie on a shelf at most."""
    many = len(cut_up(scheme, packed((used, (), ()))))
    lots = [placed(chunk, used, width) for chunk in range(1, many + 1)]
    return max(sum(shelf in lot for lot in lots) for shelf in used)


def cluster_of(scheme, width, homes, used, root, messages):
    """A cluster with this root on all shelves in use, and the pieces of these pairs of a chunk and its message."""
    assert len(messages) <= homes
    blocks = [[root if shelf in used else ()] + [()] * homes for shelf in range(scheme[2])]
    for at, (chunk, message) in enumerate(messages):
        pieces = pieces_of(scheme, message)
        for shelf in placed(chunk, used, width):
            blocks[shelf][1 + at] = (chunk,) + pieces[shelf]
    return scheme, width, tuple(((),) * 9 + tuple(rows) for rows in blocks)


def with_meta(scheme, width, homes, version, meta, chunks, files=()):
    """A cluster with this META in these chunks, and these pairs of a chunk and its message beside it."""
    numbers = packed(meta)
    messages = list(zip(chunks, cut_up(scheme, numbers)))
    return cluster_of(scheme, width, homes, meta[0], (version, len(numbers)) + chunks, messages + list(files))


def with_disk(cluster, shelf, disk):
    """The cluster with this disk, or None, in the place of the shelf."""
    return cluster[:2] + (cluster[2][:shelf] + (disk,) + cluster[2][shelf + 1:],)


def with_block(cluster, shelf, place, block):
    """The cluster with this block there."""
    disk = cluster[2][shelf]
    return with_disk(cluster, shelf, disk[:place] + (block,) + disk[place + 1:])


def place_of(cluster, shelf, chunk):
    """The place of the home of a quiet shelf that holds the chunk; None."""
    found = [place for place, block in enumerate(cluster[2][shelf]) if place > 9 and block and block[0] == chunk]
    return found[0] if found else None


def without_chunk(cluster, shelf, chunk):
    """The cluster without the chunk on the quiet shelf."""
    return with_block(cluster, shelf, place_of(cluster, shelf, chunk), ())


def rotten(cluster, shelf, chunk, more):
    """The cluster with another piece of the chunk on the quiet shelf, each number greater by these, by the prime."""
    place = place_of(cluster, shelf, chunk)
    piece = cluster[2][shelf][place][1:]
    wrong = tuple((number + other) % cluster[0][0] for number, other in zip(piece, more))
    return with_block(cluster, shelf, place, (chunk,) + wrong)


def under_way(disk):
    """A disk whose journal is under way, with the same contents as the quiet one; other blocks stand at places."""
    places = [place for place in (9, 10, 11) if place < len(disk)]
    blocks = list(disk)
    blocks[0] = (len(places),)
    for slot, place in enumerate(places, start=1):
        blocks[slot] = (place,) + disk[place]
        blocks[place] = (None, (8, 1), ())[slot % 3]
    return tuple(blocks)
