"""Runs: what comes of a mended cluster by requests, cuts and harm, and whether no more was hurt than is borne."""

from lettermend.checks import first_no_shelf, is_cut, is_from, is_tuple_of, is_tuple_within, is_within
from lettermend.clustererrors import InvalidEvent, InvalidEvents, InvalidRun
from lettermend.clusters import check_cluster, is_cluster
from lettermend.harm import after_burning, after_renewing, after_rot, is_piece_of
from lettermend.mending import after_mending_cut, after_mending_whole, seen_mended
from lettermend.requests import after_request, is_request_to
from lettermend.sights import seen_or_none


def is_lot_of(cluster, value):
    """Whether the value is an ascending tuple of indexes of the cluster's shelves."""
    return isinstance(value, tuple) and first_no_shelf(value, len(cluster[2]), None) is None


def is_ledger(cluster, value):
    """Whether the value is a ledger of this cluster."""
    return is_tuple_of(value, 3) and all([is_lot_of(cluster, lot) for lot in value[:2]]) and is_from(value[2], 0)


def check_run(run):
    """InvalidRun for what is no run."""
    if not is_tuple_of(run, 2) or not is_cluster(run[0]) or not is_ledger(run[0], run[1]):
        raise InvalidRun(run)


def are_parts(cluster, word, parts):
    """Whether these may stand behind the word of an event of this cluster."""
    most, many = len(cluster[2]) - 1, len(parts)
    if word == "request":
        return many == 1 and is_request_to(cluster, parts[0])
    if word == "cut":
        return many == 3 and is_request_to(cluster, parts[0]) and is_cut(parts[1], parts[2])
    if word == "mend":
        return many == 0
    if word == "cut mend":
        return many == 2 and is_cut(parts[0], parts[1])
    if word in ("burn", "renew"):
        return many == 1 and is_within(parts[0], 0, most)
    if word != "rot" or many != 3 or not is_within(parts[0], 0, most):
        return False
    return is_from(parts[1], 1) and is_piece_of(cluster[0], parts[2])


def is_event(cluster, value):
    """Whether the value is an event of this cluster."""
    if not isinstance(value, tuple) or len(value) == 0 or not isinstance(value[0], str):
        return False
    return are_parts(cluster, value[0], value[1:])


def reply_and_after(cluster, event):
    """The pair of the reply, None but for a request that is not cut, and of the cluster behind the event."""
    word, parts = event[0], event[1:]
    if word == "request":
        return after_request(cluster, parts[0], None, False)
    if word == "cut":
        return None, after_request(cluster, parts[0], parts[1], parts[2])[1]
    if word == "mend":
        return None, after_mending_whole(cluster)
    if word == "cut mend":
        return None, after_mending_cut(cluster, parts[0], parts[1])
    if word == "burn":
        return None, after_burning(cluster, parts[0])
    if word == "renew":
        return None, after_renewing(cluster, parts[0])
    return None, after_rot(cluster, parts[0], parts[1], parts[2])


def used_in(cluster):
    """The shelves in use, () if the cluster is not readable."""
    sight = seen_or_none(cluster)
    return () if sight is None else sight.meta[1]


def new_ledger(cluster):
    """The ledger of a mended cluster with which a run begins."""
    return used_in(cluster), tuple([shelf for shelf, disk in enumerate(cluster[2]) if disk is None]), 0


def joined(lot, more):
    """The ascending tuple of all shelves of both."""
    return tuple(sorted(set([*lot, *more])))


def ledger_behind(ledger, event, cluster):
    """The ledger behind an event, told the cluster behind it."""
    lot, hurt, rots = ledger
    word = event[0]
    if word in ("request", "mend"):
        return new_ledger(cluster)
    if word == "burn":
        hurt = joined(hurt, event[1:])
    return joined(lot, used_in(cluster)), hurt, rots + 1 if word == "rot" else rots


def reply_and_run(run, event):
    """The pair of the reply and of the run behind the event."""
    reply, cluster = reply_and_after(run[0], event)
    return reply, (cluster, ledger_behind(run[1], event, cluster))


def begin(cluster):
    """The run that begins from a mended cluster."""
    check_cluster(cluster)
    seen_mended(cluster)
    return cluster, new_ledger(cluster)


def after_event(run, event):
    """The pair of the reply, None but for a request that is not cut, and of the run behind the event."""
    check_run(run)
    if not is_event(run[0], event):
        raise InvalidEvent(event)
    return reply_and_run(run, event)


def after_events(run, events):
    """The pair of the replies to the events, one after the other, and of the run behind them."""
    check_run(run)
    if not is_tuple_within(events, 0, 40):
        raise InvalidEvents(None)
    for index, event in enumerate(events):
        if not is_event(run[0], event):
            raise InvalidEvents(index)
    replies = []
    for event in events:
        reply, run = reply_and_run(run, event)
        replies.append(reply)
    return tuple(replies), run


def is_held(run):
    """Whether the shelves in use that were hurt, and twice the rots, are no more than is borne."""
    check_run(run)
    (scheme, width, _), (lot, hurt, rots) = run
    return len([shelf for shelf in lot if shelf in hurt]) + 2 * rots <= width - scheme[3]
