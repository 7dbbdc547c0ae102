"""Requests to mended clusters: the reply, the steps by which one happens, and which of them decides; and reads."""

from lettermend.checks import first_no_number
from lettermend.clustererrors import InvalidRequest
from lettermend.clusters import after_steps, check_cluster, homes_in
from lettermend.coding import lines_for, pieces_on
from lettermend.files import messages_for
from lettermend.meanings import answer_to, is_request, known_reply
from lettermend.mending import seen_mended, steps_of_mending
from lettermend.packing import MOST, numbers_of_meta
from lettermend.placement import placed_among
from lettermend.rooms import node_in, room_with
from lettermend.shelves import batch_for_root, batch_to_put
from lettermend.sights import chunks_named, seen
from lettermend.trees import check_path
from lettermend.works import Work


class Behind:
    """What is behind a request that is tried: META with its version, the root, and where all named chunks are placed.

    The new chunks are pairs of a chunk and its message, ascending: a file's, then those of META, which are `own`.
    """

    def __init__(self, width, meta, new, own, length):
        self.meta = meta
        self.new = new
        self.own = own
        self.root = (meta[0], length, *[chunk for chunk, _ in own])
        self.lots = {chunk: placed_among(chunk, meta[1], width) for chunk in chunks_named(self.root, meta)}


def is_deed_to(scheme, deed):
    """Whether the deed may be asked of a cluster of this scheme: its numbers are the prime's, its shelf is one."""
    if deed[0] == "put":
        return first_no_number(scheme[0], deed[2]) is None
    return deed[0] not in ("join", "leave") or deed[1] < scheme[2]


def is_request_to(cluster, value):
    """Whether the value is a request that may be asked of the cluster."""
    return is_request(value) and is_deed_to(cluster[0], value[2])


def check_request(cluster, request):
    """InvalidRequest for what is no request, or none to the cluster."""
    if not is_request_to(cluster, request):
        raise InvalidRequest(request)


def outcome_and_behind(sight, request):
    """The pair of the outcome of a request that is tried and of what is behind it."""
    deed = request[2]
    outcome, (version, used, marks, tree) = answer_to(sight.meta, sight.width, request)
    first = max(sight.chunks()) + 1
    messages = ()
    if deed[0] == "put" and outcome == "done":
        messages = messages_for(sight.scheme, deed[2])
        tree = room_with(tree, deed[1], ("file", len(deed[2]), tuple(range(first, first + len(messages)))))
    numbers = numbers_of_meta((used, marks, tree))
    new = list(enumerate((*messages, *messages_for(sight.scheme, numbers)), start=first))
    meta = (version, used, marks, tree)
    return outcome, Behind(sight.width, meta, new, new[len(messages):], len(numbers))


def is_down(sight, behind, request, outcome):
    """Whether too few of the shelves in use behind stand, or a shelf would join that does not stand."""
    used, deed = behind.meta[1], request[2]
    if len(used) - len(sight.standing(used)) > sight.width - sight.scheme[3]:
        return True
    return deed[0] == "join" and outcome == "done" and not sight.stands(deed[1])


def many_wanted(sight, behind, shelf):
    """How many chunks lie on the shelf, or are placed there before or behind."""
    lying = [block[0] for block in sight.told[shelf][1:] if block] if sight.stands(shelf) else []
    placed_there = [chunk for lots in (sight.lots, behind.lots) for chunk in lots if shelf in lots[chunk]]
    return len(set([*lying, *placed_there]))


def is_full(cluster, sight, behind):
    """Whether META behind is too long, a new chunk's number too great, or a shelf in use has too few homes."""
    if len(behind.own) > 60 or behind.new[-1][0] > MOST:
        return True
    homes = homes_in(cluster)
    used = sorted(set([*sight.meta[1], *behind.meta[1]]))
    return any([many_wanted(sight, behind, shelf) > homes for shelf in used])


def write_new(sight, behind, work):
    """Puts the pieces of the new chunks; tells how many there are."""
    scheme, many = sight.scheme, 0
    lines = lines_for(scheme)
    for chunk, message in behind.new:
        pieces = pieces_on(scheme, lines, message)
        for shelf in sight.standing(behind.lots[chunk]):
            work.do(shelf, batch_to_put(work.held[shelf], chunk, pieces[shelf]))
            many += 1
    return many


def steps_and_deciding(cluster, sight, behind):
    """The pair of all steps that lead to what is behind and of how many must be done for it to count."""
    work = Work(sight.told)
    many = write_new(sight, behind, work)
    work.do(sight.standing(behind.meta[1])[0], batch_for_root(behind.root))
    steps = work.taken()
    there = after_steps(cluster, steps, len(steps), False)
    return (*steps, *steps_of_mending(there, seen(there))), 4 * many + 2


def tried(cluster, sight, request):
    """(REPLY, STEPS, DECIDING) of a request to a mended cluster that was seen; the last is None without steps."""
    reply = known_reply(sight.meta[2], request)
    if reply is not None:
        return reply, (), None
    outcome, behind = outcome_and_behind(sight, request)
    if is_down(sight, behind, request, outcome):
        return "down", (), None
    if is_full(cluster, sight, behind):
        return "full", (), None
    return (outcome, *steps_and_deciding(cluster, sight, behind))


def after_request(cluster, request, count, torn):
    """The pair of the reply to a request and of the cluster behind its steps, run to the cut, all for a count of None.

    Lost, Full and NotMended are raised for a cluster that is not mended.
    """
    reply, steps, _ = tried(cluster, seen_mended(cluster), request)
    return reply, after_steps(cluster, steps, len(steps) if count is None else count, torn)


def request_steps(cluster, request):
    """The pair of the reply to the request and of its steps, () where the cluster stays."""
    check_cluster(cluster)
    check_request(cluster, request)
    return tried(cluster, seen_mended(cluster), request)[:2]


def decided_from(cluster, request):
    """How many steps must be done for the request to count; None if it has none."""
    check_cluster(cluster)
    check_request(cluster, request)
    return tried(cluster, seen_mended(cluster), request)[2]


def read(cluster, path):
    """The node that stands at the path, the whole view as a room for (); None."""
    check_cluster(cluster)
    check_path(path)
    return node_in(seen_mended(cluster).meaning()[3], path)
