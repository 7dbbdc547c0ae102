"""What is seen of a cluster: its root, its chunks and their messages, META, and who holds what.

What is asked of `told` is asked of the contents of all shelves, None for a burnt one, without a check.
"""

from lettermend.clustererrors import Lost
from lettermend.clusters import contents_told
from lettermend.coding import lines_for
from lettermend.files import many_for, numbers_from
from lettermend.packing import meta_in
from lettermend.placement import placed_among
from lettermend.rooms import is_room
from lettermend.sure import message_among


def greatest_root(told):
    """The greatest root, () if there is none."""
    return max([blocks[0] for blocks in told if blocks is not None], default=())


def pieces_by_chunk(told):
    """Of each chunk that lies somewhere the pairs of each shelf, ascending, that holds it and its piece."""
    lying = {}
    for shelf, blocks in enumerate(told):
        homes = () if blocks is None else blocks[1:]
        for block in homes:
            if block:
                lying.setdefault(block[0], []).append((shelf, block[1:]))
    return lying


def pieces_lying(told, chunk):
    """The pairs of each shelf, ascending, that holds the chunk and its piece."""
    return pieces_by_chunk(told).get(chunk, [])


def message_and_wrong(scheme, lines, pairs):
    """The pair of the message of a chunk of which these pieces lie and of the holders that are wrong; None."""
    if len(pairs) < scheme[3]:
        return None
    shelves, pieces = [pair[0] for pair in pairs], [pair[1] for pair in pairs]
    return message_among(scheme, lines, (len(pairs) - scheme[3]) // 2, shelves, pieces)


def message_of_chunk(scheme, told, chunk):
    """The pair of the message of the chunk and of the holders that are wrong; None if it is lost."""
    return message_and_wrong(scheme, lines_for(scheme), pieces_lying(told, chunk))


def files_in(room):
    """The nodes of all files in the room and in those within."""
    files = []
    for _, node in room:
        if is_room(node):
            files.extend(files_in(node[1]))
        else:
            files.append(node)
    return files


def is_meta_of(cluster, meta):
    """Whether META is one that this cluster may have."""
    scheme, width, _ = cluster
    used, _, tree = meta
    if len(used) < width or used[-1] >= scheme[2]:
        return False
    return all([len(chunks) == many_for(scheme, length) for _, length, chunks in files_in(tree)])


def meta_told(cluster, root, messages):
    """(VERSION, USED, MARKS, TREE) as the messages of the root's chunks tell it; None."""
    meta = meta_in(numbers_from(root[1], messages))
    return (root[0], *meta) if meta is not None and is_meta_of(cluster, meta) else None


def chunks_named(root, meta):
    """The ascending list of the chunks that the root and the files of META name."""
    chunks = list(root[2:])
    for _, _, more in files_in(meta[3]):
        chunks.extend(more)
    return sorted(set(chunks))


def view_from(room, messages):
    """The view that a room of META is, told the messages of all chunks of its files."""
    pairs = []
    for name, node in room:
        if is_room(node):
            pairs.append((name, ("room", view_from(node[1], messages))))
        else:
            pairs.append((name, ("file", numbers_from(node[1], [messages[chunk] for chunk in node[2]]))))
    return tuple(pairs)


class Sight:
    """What is seen of a readable cluster: what all shelves hold, its root, its META and its named chunks."""

    def __init__(self, cluster, told, lying, meta, found):
        self.scheme = cluster[0]
        self.width = cluster[1]
        self.told = told
        self.lying = lying
        self.root = greatest_root(told)
        self.meta = meta
        # Of each named chunk, ascending, the pair of its message and of the holders that are wrong.
        self.found = found
        self.lots = {chunk: placed_among(chunk, meta[1], cluster[1]) for chunk in found}

    def chunks(self):
        """The ascending tuple of the named chunks."""
        return tuple(self.found)

    def message(self, chunk):
        """The message of a named chunk."""
        return self.found[chunk][0]

    def where(self, chunk):
        """The ascending shelves on which a named chunk is placed."""
        return self.lots[chunk]

    def stands(self, shelf):
        """Whether the shelf stands."""
        return self.told[shelf] is not None

    def standing(self, shelves):
        """The list of those of the shelves that stand."""
        return [shelf for shelf in shelves if self.stands(shelf)]

    def all_standing(self):
        """The list of all shelves that stand."""
        return [shelf for shelf, blocks in enumerate(self.told) if blocks is not None]

    def rooted(self):
        """The ascending shelves that have the root."""
        return tuple([shelf for shelf in self.all_standing() if self.told[shelf][0] == self.root])

    def holding(self, chunk):
        """The ascending tuples of the shelves that are right, wrong, lacking and stray for a named chunk."""
        wrong, where = self.found[chunk][1], self.where(chunk)
        lying = [pair[0] for pair in self.lying.get(chunk, [])]
        right = [shelf for shelf in lying if shelf not in wrong]
        lacking = [shelf for shelf in self.standing(where) if shelf not in lying]
        stray = [shelf for shelf in lying if shelf not in where]
        return tuple(right), wrong, tuple(lacking), tuple(stray)

    def meaning(self):
        """What the cluster means."""
        messages = {chunk: found[0] for chunk, found in self.found.items()}
        return (*self.meta[:3], view_from(self.meta[3], messages))


def found_among(cluster, lying, chunks):
    """Of each of the chunks the pair of its message and of the holders that are wrong; None for a lost one."""
    lines = lines_for(cluster[0])
    return {chunk: message_and_wrong(cluster[0], lines, lying.get(chunk, [])) for chunk in chunks}


def meta_among(cluster, root, found):
    """(VERSION, USED, MARKS, TREE) as it lies, told what was found of the root's chunks; None."""
    if not root or len(root) - 2 != many_for(cluster[0], root[1]):
        return None
    if None in [found[chunk] for chunk in root[2:]]:
        return None
    return meta_told(cluster, root, [found[chunk][0] for chunk in root[2:]])


def meta_lying(cluster, told):
    """(VERSION, USED, MARKS, TREE) as it lies; None."""
    root = greatest_root(told)
    return meta_among(cluster, root, found_among(cluster, pieces_by_chunk(told), root[2:]))


def seen(cluster):
    """The sight of a readable cluster; otherwise Lost, with None if META is not told, else the least lost chunk."""
    told = contents_told(cluster)
    root, lying = greatest_root(told), pieces_by_chunk(told)
    found = found_among(cluster, lying, root[2:])
    meta = meta_among(cluster, root, found)
    if meta is None:
        raise Lost(None)
    chunks = chunks_named(root, meta)
    found.update(found_among(cluster, lying, [chunk for chunk in chunks if chunk not in found]))
    for chunk in chunks:
        if found[chunk] is None:
            raise Lost(chunk)
    return Sight(cluster, told, lying, meta, {chunk: found[chunk] for chunk in chunks})


def seen_or_none(cluster):
    """The sight of the cluster; None if it is not readable."""
    try:
        sight = seen(cluster)
    except Lost:
        return None
    return sight
