"""How a readable cluster is mended: in five phases, each of which may be cut anywhere and begun anew."""

from lettermend.clustererrors import Lost
from lettermend.clusters import after_steps, check_cluster
from lettermend.coding import lines_for, pieces_on, room_for
from lettermend.errors import Full, NotMended
from lettermend.journals import mending_for
from lettermend.shelves import batch_for_root, batch_to_put
from lettermend.sights import seen
from lettermend.works import Work


def steps_of_disks(cluster):
    """Phase 1: the mending of each standing shelf's disk."""
    disks = [(shelf, disk) for shelf, disk in enumerate(cluster[2]) if disk is not None]
    return tuple([(shelf, place, block) for shelf, disk in disks for place, block in mending_for(disk)])


def write_roots(sight, work):
    """Phase 2: the root to each standing shelf in use that has another one, or none."""
    for shelf in sight.standing(sight.meta[1]):
        if work.held[shelf][0] != sight.root:
            work.do(shelf, batch_for_root(sight.root))


def drop_unnamed(sight, work):
    """Phase 3: what holds chunks that are not named becomes free."""
    for shelf in sight.all_standing():
        homes = list(enumerate(work.held[shelf][1:], start=10))
        work.empty(shelf, [place for place, block in homes if block and block[0] not in sight.found])


def givers_among(scheme, right):
    """The right holders that send their letters; () if there are too few of them."""
    return tuple(sorted(right)[:scheme[4]]) if len(right) >= scheme[4] else ()


def put_pieces(sight, work):
    """Phase 4: right pieces to shelves that are lacking or wrong; told are (CHUNK, SHELF, GIVERS) of each.

    Full is raised for a piece for which there is no free home.
    """
    scheme, put = sight.scheme, []
    lines = lines_for(scheme)
    for chunk in sight.chunks():
        holding, wrong, lacking, _ = sight.holding(chunk)
        right = list(holding)
        for shelf in sorted([*wrong, *lacking]):
            # The message makes the same piece as the letters of the givers do, and it was read already.
            piece = pieces_on(scheme, [lines[shelf]], sight.message(chunk))[0]
            batch = batch_to_put(work.held[shelf], chunk, piece)
            if not batch:
                raise Full(chunk)
            work.do(shelf, batch)
            put.append((chunk, shelf, givers_among(scheme, right)))
            right.append(shelf)
    return tuple(put)


def places_to_clear(sight, shelf, blocks):
    """The ascending places of a standing shelf that nobody needs once all pieces lie where they are placed."""
    used = sight.meta[1]
    places = []
    if blocks[0] and shelf not in used and sight.standing(used):
        places.append(9)
    for place, block in enumerate(blocks[1:], start=10):
        where = sight.where(block[0]) if block else (shelf,)
        if shelf not in where and len(sight.standing(where)) >= sight.scheme[3]:
            places.append(place)
    return places


def clear_away(sight, work):
    """Phase 5: roots and pieces that do not belong where they lie become free."""
    for shelf in sight.all_standing():
        work.empty(shelf, places_to_clear(sight, shelf, work.held[shelf]))


def phases_and_put(cluster, sight):
    """The pair of the five phases and of what put_pieces tells; Full."""
    work = Work(sight.told)
    write_roots(sight, work)
    second = work.taken()
    drop_unnamed(sight, work)
    third = work.taken()
    put = put_pieces(sight, work)
    fourth = work.taken()
    clear_away(sight, work)
    return (steps_of_disks(cluster), second, third, fourth, work.taken()), put


def steps_of_mending(cluster, sight):
    """The steps of all five phases; Full."""
    phases = phases_and_put(cluster, sight)[0]
    return tuple([step for phase in phases for step in phase])


def after_mending_whole(cluster):
    """The cluster behind its whole mending; Lost, then Full."""
    steps = steps_of_mending(cluster, seen(cluster))
    return after_steps(cluster, steps, len(steps), False)


def after_mending_cut(cluster, count, torn):
    """The cluster behind its mending, run to the cut; Lost, then Full."""
    return after_steps(cluster, steps_of_mending(cluster, seen(cluster)), count, torn)


def seen_mended(cluster):
    """The sight of a mended cluster; otherwise Lost, Full, or NotMended with the first step of its mending."""
    sight = seen(cluster)
    steps = steps_of_mending(cluster, sight)
    if steps:
        raise NotMended(steps[0])
    return sight


def is_at_rest(cluster):
    """Whether the cluster is readable and its mending has no steps."""
    try:
        steps = steps_of_mending(cluster, seen(cluster))
    except (Lost, Full):
        return False
    return len(steps) == 0


def put_by_mending(cluster):
    """(CHUNK, SHELF, GIVERS) of each piece of phase 4; Lost, then Full."""
    return phases_and_put(cluster, seen(cluster))[1]


def phases_of(cluster):
    """The five phases of the mending, a tuple of steps each."""
    check_cluster(cluster)
    return phases_and_put(cluster, seen(cluster))[0]


def steps_to_mend(cluster):
    """All steps of the mending, in a row."""
    check_cluster(cluster)
    return steps_of_mending(cluster, seen(cluster))


def is_mended(cluster):
    """Whether the cluster is readable and its mending has no steps."""
    check_cluster(cluster)
    return is_at_rest(cluster)


def mended_cluster(cluster):
    """The cluster behind its whole mending."""
    check_cluster(cluster)
    return after_mending_whole(cluster)


def givers_of(cluster):
    """Of each piece that mending puts, in order: the chunk, the shelf and the givers, () where it is read."""
    check_cluster(cluster)
    return put_by_mending(cluster)


def numbers_sent(cluster):
    """How many numbers the shelves send for all pieces that mending puts."""
    check_cluster(cluster)
    _, _, _, parts, helpers = cluster[0]
    read = parts * room_for(cluster[0])
    return sum([helpers if givers else read for _, _, givers in put_by_mending(cluster)])
