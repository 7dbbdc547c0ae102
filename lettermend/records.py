"""Records of runs of a post: when each wish was sent, done and answered."""

from lettermend.office import Office
from lettermend.post import check_events, check_post
from lettermend.sights import seen_or_none
from lettermend.wishes import is_read, seq_of


def seqs_marked(cluster):
    """The SEQ of each client's mark, by the client's index; none if the cluster is not readable."""
    sight = seen_or_none(cluster)
    return {} if sight is None else {name: seq for name, seq, _ in sight.meta[2]}


def seqs_wanted(clients):
    """The SEQ of each deed of the scripts, by the index of its client and of the wish."""
    wanted = {}
    for name, client in enumerate(clients):
        for at, wish in enumerate(client[1]):
            if not is_read(wish):
                wanted[(name, at)] = seq_of(client, at)
    return wanted


def office_and_done(post, events):
    """The pair of the office behind the events and of the events in which deeds came to be had, by their indexes."""
    office = Office(post)
    wanted, done = seqs_wanted(post[1]), {}
    marked = seqs_marked(post[0])
    for event in events:
        ahead, index = office.cluster, office.at
        office.do(event)
        if office.cluster == ahead:
            continue
        before, marked = marked, seqs_marked(office.cluster)
        for name, at in wanted:
            if before.get(name, 0) < wanted[(name, at)] <= marked.get(name, 0):
                done[(name, at)] = index
    return office, done


def place_of(element):
    """What elements of a record are ordered by: when the wish was done, or, for those told before, when it was had."""
    return (-1, element[4]) if element[3] is None else (element[3], 0)


def record_in(office, done):
    """The record of the events that were done in the office, told when deeds came to be had."""
    rows = []
    for name, at in done:
        taken = office.took.get((name, at), (None, None))
        rows.append((name, at, office.sent.get((name, at)), done[(name, at)], taken[1]))
    for name, at in office.took:
        if is_read(office.clients[name][1][at]):
            made, taken = office.took[(name, at)]
            rows.append((name, at, office.sent.get((name, at)), made, taken))
    return tuple(sorted(rows, key=place_of))


def record(post, events):
    """The record of the run of the events on the post."""
    check_post(post)
    check_events(events)
    office, done = office_and_done(post, events)
    return record_in(office, done)
