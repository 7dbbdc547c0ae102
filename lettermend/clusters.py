"""Clusters: shelves of one scheme, some of them burnt, and the steps that are done on them."""

from lettermend.checks import check_cut, first_no_shelf, is_tuple_of, is_tuple_within, is_within
from lettermend.clustererrors import InvalidCluster, InvalidSteps, TooFewHomes
from lettermend.coding import lines_for, pieces_on, room_for, size_for
from lettermend.disks import after_writes, fresh_disk, is_write
from lettermend.errors import InvalidHomes, InvalidScheme, InvalidUsed, InvalidWidth
from lettermend.files import messages_for
from lettermend.journals import meant, steps_for
from lettermend.packing import numbers_of_meta
from lettermend.placement import placed_among
from lettermend.schemes import is_scheme
from lettermend.shelves import batch_for_root, batch_to_put, is_shelf


def is_cluster_scheme(value):
    """Whether the value is a scheme that a cluster may have."""
    return is_scheme(value) and value[0] >= 31 and size_for(value) >= 6


def is_cluster_width(scheme, value):
    """Whether the value is a width that a cluster of this scheme may have."""
    return is_within(value, scheme[4] + 1, scheme[2])


def are_like_shelves(disks):
    """Whether all of the disks are shelves with as many homes."""
    return all([is_shelf(disk) for disk in disks]) and all([len(disk) == len(disks[0]) for disk in disks])


def are_right_pieces(scheme, blocks):
    """Whether all pieces of these contents are rows of the prime's numbers, as many as the room."""
    many = room_for(scheme) + 1
    homes = [block for block in blocks[1:] if block]
    return all([len(block) == many and max(block[1:]) < scheme[0] for block in homes])


def are_like_roots(roots):
    """Whether roots of one version are the same."""
    told = {}
    for root in roots:
        if root and told.setdefault(root[0], root) != root:
            return False
    return True


def is_cluster(value):
    """Whether the value is a cluster."""
    if not is_tuple_of(value, 3) or not is_cluster_scheme(value[0]):
        return False
    scheme, width, shelves = value
    if not is_cluster_width(scheme, width) or not is_tuple_of(shelves, scheme[2]):
        return False
    disks = [disk for disk in shelves if disk is not None]
    if not are_like_shelves(disks):
        return False
    told = [meant(disk) for disk in disks]
    return all([are_right_pieces(scheme, blocks) for blocks in told]) and are_like_roots([blocks[0] for blocks in told])


def check_cluster(cluster):
    """InvalidCluster for what is no cluster."""
    if not is_cluster(cluster):
        raise InvalidCluster(cluster)


def shelves_standing(cluster):
    """The ascending tuple of the shelves that stand."""
    return tuple([shelf for shelf, disk in enumerate(cluster[2]) if disk is not None])


def contents_told(cluster):
    """The contents of all shelves, None for a burnt one."""
    return tuple([None if disk is None else meant(disk) for disk in cluster[2]])


def homes_in(cluster):
    """How many homes each standing shelf has; 1 if none stands."""
    disks = [disk for disk in cluster[2] if disk is not None]
    return len(disks[0]) - 10 if disks else 1


def with_shelf(cluster, shelf, disk):
    """The cluster with this disk, or None, in the place of the shelf."""
    scheme, width, shelves = cluster
    return scheme, width, (*shelves[:shelf], disk, *shelves[shelf + 1:])


def after_steps(cluster, steps, count, torn):
    """The cluster after the steps, run to the cut."""
    shelves = [None if disk is None else list(disk) for disk in cluster[2]]
    for shelf, place, block in steps[:count]:
        shelves[shelf][place] = block
    if torn and count < len(steps):
        shelf, place, _ = steps[count]
        shelves[shelf][place] = None
    return cluster[0], cluster[1], tuple([None if disk is None else tuple(disk) for disk in shelves])


def is_step(cluster, value):
    """Whether the value is a write on a shelf of the cluster that stands."""
    if not is_tuple_of(value, 3) or not is_within(value[0], 0, len(cluster[2]) - 1):
        return False
    disk = cluster[2][value[0]]
    return disk is not None and is_write(value[1:], 0, len(disk), 90)


def check_steps(cluster, steps):
    """InvalidSteps for what is no tuple of steps."""
    if not isinstance(steps, tuple):
        raise InvalidSteps(None)
    for index, step in enumerate(steps):
        if not is_step(cluster, step):
            raise InvalidSteps(index)


def check_founding(scheme, width, used, homes):
    """InvalidScheme, InvalidWidth, InvalidUsed and InvalidHomes for what no new cluster has."""
    if not is_cluster_scheme(scheme):
        raise InvalidScheme(scheme)
    if not is_cluster_width(scheme, width):
        raise InvalidWidth(width)
    if not is_tuple_within(used, width, scheme[2]) or first_no_shelf(used, scheme[2], None) is not None:
        raise InvalidUsed(used)
    if not is_within(homes, 1, 60):
        raise InvalidHomes(homes)


def after_whole_batch(disk, batch):
    """The quiet disk after the batch."""
    steps = steps_for(batch)
    return after_writes(disk, steps, len(steps), False)


def new_cluster(scheme, width, used, homes):
    """The cluster of fresh shelves with the META of these shelves in use, without marks and files."""
    check_founding(scheme, width, used, homes)
    numbers = numbers_of_meta((used, (), ()))
    messages = messages_for(scheme, numbers)
    chunks = tuple(range(1, len(messages) + 1))
    disks = [fresh_disk(homes) for _ in range(scheme[2])]
    lines = lines_for(scheme)
    for chunk, message in zip(chunks, messages):
        pieces = pieces_on(scheme, lines, message)
        for shelf in placed_among(chunk, used, width):
            batch = batch_to_put(meant(disks[shelf]), chunk, pieces[shelf])
            if not batch:
                raise TooFewHomes()
            disks[shelf] = after_whole_batch(disks[shelf], batch)
    for shelf in used:
        disks[shelf] = after_whole_batch(disks[shelf], batch_for_root((1, len(numbers), *chunks)))
    return scheme, width, tuple(disks)


def standing(cluster):
    """The ascending tuple of the shelves that stand."""
    check_cluster(cluster)
    return shelves_standing(cluster)


def contents_of(cluster):
    """The contents of all shelves, None for a burnt one."""
    check_cluster(cluster)
    return contents_told(cluster)


def done_steps(cluster, steps):
    """The cluster after all of the steps."""
    check_cluster(cluster)
    check_steps(cluster, steps)
    return after_steps(cluster, steps, len(steps), False)


def cut_steps(cluster, steps, count, torn):
    """The cluster after the steps, run to the cut."""
    check_cluster(cluster)
    check_steps(cluster, steps)
    check_cut(count, torn)
    return after_steps(cluster, steps, count, torn)
