"""What lies in a cluster: its root, its chunks and their messages, META, and what all of it means.

What is asked of `told` is asked of the contents of all shelves, None for a burnt one, without a check.
"""

from lettermend.checks import check_chunk, check_shelf
from lettermend.clusters import check_cluster, contents_told
from lettermend.coding import lines_for, pieces_on
from lettermend.files import many_for, numbers_from
from lettermend.packing import meta_in
from lettermend.rooms import is_room
from lettermend.shelves import piece_held
from lettermend.sure import message_among


def greatest_root(told):
    """The greatest root, () if there is none."""
    return max([blocks[0] for blocks in told if blocks is not None], default=())


def pieces_lying(told, chunk):
    """The pairs of each shelf, ascending, that holds the chunk and its piece."""
    pairs = [(shelf, piece_held(blocks, chunk)) for shelf, blocks in enumerate(told) if blocks is not None]
    return [(shelf, piece) for shelf, piece in pairs if piece is not None]


def message_and_wrong(scheme, told, chunk):
    """The pair of the message of the chunk and of the holders that are wrong; None if it is lost."""
    pairs = pieces_lying(told, chunk)
    if len(pairs) < scheme[3]:
        return None
    shelves, pieces = [pair[0] for pair in pairs], [pair[1] for pair in pairs]
    return message_among(scheme, (len(pairs) - scheme[3]) // 2, shelves, pieces)


def message_lying(scheme, told, chunk):
    """The message of the chunk; None if it is lost."""
    found = message_and_wrong(scheme, told, chunk)
    return None if found is None else found[0]


def messages_lying(scheme, told, chunks):
    """The messages of the chunks, in order; None if one of them is lost."""
    messages = []
    for chunk in chunks:
        message = message_lying(scheme, told, chunk)
        if message is None:
            return None
        messages.append(message)
    return messages


def files_in(room):
    """The nodes of all files in the room and in those within."""
    files = []
    for _, node in room:
        if is_room(node):
            files.extend(files_in(node[1]))
        else:
            files.append(node)
    return files


def is_meta_of(cluster, meta):
    """Whether META is one that this cluster may have."""
    scheme, width, _ = cluster
    used, _, tree = meta
    if len(used) < width or used[-1] >= scheme[2]:
        return False
    return all([len(chunks) == many_for(scheme, length) for _, length, chunks in files_in(tree)])


def meta_lying(cluster, told):
    """(VERSION, USED, MARKS, TREE) as it lies; None."""
    scheme = cluster[0]
    root = greatest_root(told)
    if not root or len(root) - 2 != many_for(scheme, root[1]):
        return None
    messages = messages_lying(scheme, told, root[2:])
    if messages is None:
        return None
    meta = meta_in(numbers_from(root[1], messages))
    return (root[0], *meta) if meta is not None and is_meta_of(cluster, meta) else None


def chunks_named(told, meta):
    """The ascending tuple of the chunks that the root and the files of META name."""
    chunks = list(greatest_root(told)[2:])
    for _, _, more in files_in(meta[3]):
        chunks.extend(more)
    return tuple(sorted(set(chunks)))


def view_from(room, messages):
    """The view that a room of META is, told the messages of all chunks of its files."""
    pairs = []
    for name, node in room:
        if is_room(node):
            pairs.append((name, ("room", view_from(node[1], messages))))
        else:
            pairs.append((name, ("file", numbers_from(node[1], [messages[chunk] for chunk in node[2]]))))
    return tuple(pairs)


def root_of(cluster):
    """The cluster's root, () if there is none."""
    check_cluster(cluster)
    return greatest_root(contents_told(cluster))


def holders(cluster, chunk):
    """The ascending tuple of the standing shelves that hold the chunk."""
    check_cluster(cluster)
    check_chunk(chunk)
    return tuple([pair[0] for pair in pieces_lying(contents_told(cluster), chunk)])


def right_holders(cluster, chunk):
    """The ascending tuple of the holders whose piece is that of the chunk's message, () for a lost one."""
    check_cluster(cluster)
    check_chunk(chunk)
    told = contents_told(cluster)
    found = message_and_wrong(cluster[0], told, chunk)
    if found is None:
        return ()
    return tuple([pair[0] for pair in pieces_lying(told, chunk) if pair[0] not in found[1]])


def chunk_message(cluster, chunk):
    """The message of the chunk; None if it is lost."""
    check_cluster(cluster)
    check_chunk(chunk)
    return message_lying(cluster[0], contents_told(cluster), chunk)


def piece_for(cluster, chunk, shelf):
    """The piece that the chunk's message has for the shelf, standing or not; None if the chunk is lost."""
    check_cluster(cluster)
    check_chunk(chunk)
    scheme = cluster[0]
    check_shelf(shelf, scheme[2])
    message = message_lying(scheme, contents_told(cluster), chunk)
    return None if message is None else pieces_on(scheme, [lines_for(scheme)[shelf]], message)[0]


def meta_of(cluster):
    """(VERSION, USED, MARKS, TREE) as it lies; None if META is not told."""
    check_cluster(cluster)
    return meta_lying(cluster, contents_told(cluster))


def named(cluster):
    """The ascending tuple of all chunks that are named; None if META is not told."""
    check_cluster(cluster)
    told = contents_told(cluster)
    meta = meta_lying(cluster, told)
    return None if meta is None else chunks_named(told, meta)


def meaning(cluster):
    """What the cluster means, (VERSION, USED, MARKS, VIEW); None if META or a file's chunk is not told."""
    check_cluster(cluster)
    told = contents_told(cluster)
    meta = meta_lying(cluster, told)
    if meta is None:
        return None
    chunks = chunks_named(told, meta)
    messages = messages_lying(cluster[0], told, chunks)
    if messages is None:
        return None
    return (*meta[:3], view_from(meta[3], {chunk: message for chunk, message in zip(chunks, messages)}))
