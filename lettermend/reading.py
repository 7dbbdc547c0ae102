"""What lies in a cluster: its root, its chunks and their messages, META, and what all of it means."""

from lettermend.checks import check_chunk, check_shelf
from lettermend.clusters import check_cluster, contents_told
from lettermend.coding import lines_for, pieces_on
from lettermend.sights import chunks_named, greatest_root, message_of_chunk, meta_lying, pieces_lying
from lettermend.sights import seen_or_none


def root_of(cluster):
    """The cluster's root, () if there is none."""
    check_cluster(cluster)
    return greatest_root(contents_told(cluster))


def holders(cluster, chunk):
    """The ascending tuple of the standing shelves that hold the chunk."""
    check_cluster(cluster)
    check_chunk(chunk)
    return tuple([pair[0] for pair in pieces_lying(contents_told(cluster), chunk)])


def right_holders(cluster, chunk):
    """The ascending tuple of the holders whose piece is that of the chunk's message, () for a lost one."""
    check_cluster(cluster)
    check_chunk(chunk)
    told = contents_told(cluster)
    found = message_of_chunk(cluster[0], told, chunk)
    if found is None:
        return ()
    return tuple([pair[0] for pair in pieces_lying(told, chunk) if pair[0] not in found[1]])


def chunk_message(cluster, chunk):
    """The message of the chunk; None if it is lost."""
    check_cluster(cluster)
    check_chunk(chunk)
    found = message_of_chunk(cluster[0], contents_told(cluster), chunk)
    return None if found is None else found[0]


def piece_for(cluster, chunk, shelf):
    """The piece that the chunk's message has for the shelf, standing or not; None if the chunk is lost."""
    check_cluster(cluster)
    check_chunk(chunk)
    scheme = cluster[0]
    check_shelf(shelf, scheme[2])
    found = message_of_chunk(scheme, contents_told(cluster), chunk)
    return None if found is None else pieces_on(scheme, [lines_for(scheme)[shelf]], found[0])[0]


def meta_of(cluster):
    """(VERSION, USED, MARKS, TREE) as it lies; None if META is not told."""
    check_cluster(cluster)
    return meta_lying(cluster, contents_told(cluster))


def named(cluster):
    """The ascending tuple of all chunks that are named; None if META is not told."""
    check_cluster(cluster)
    told = contents_told(cluster)
    meta = meta_lying(cluster, told)
    return None if meta is None else tuple(chunks_named(greatest_root(told), meta))


def meaning(cluster):
    """What the cluster means, (VERSION, USED, MARKS, VIEW); None if META or a file's chunk is not told."""
    check_cluster(cluster)
    sight = seen_or_none(cluster)
    return None if sight is None else sight.meaning()
