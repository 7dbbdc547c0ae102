"""Posts: clients, the letters on their way, and the store; letters come late, doubled, in any order, or never."""

from lettermend.checks import is_cut, is_from, is_tuple_of, is_tuple_within, is_within
from lettermend.clustererrors import InvalidEvent, InvalidEvents, InvalidPost, InvalidScripts
from lettermend.clusters import check_cluster, is_cluster
from lettermend.meanings import mark_in
from lettermend.mending import seen_mended
from lettermend.office import MOST_LETTERS, Office
from lettermend.packing import MOST
from lettermend.requests import is_deed_to
from lettermend.wishes import is_client, is_letter, is_read, is_wish, seq_of


def is_wish_of(cluster, wish):
    """Whether a wish is one of the cluster."""
    return is_read(wish) or is_deed_to(cluster[0], wish)


def is_script_of(cluster, value):
    """Whether the value is a script of wishes of the cluster."""
    if not is_tuple_within(value, 0, 12) or not all([is_wish(wish) for wish in value]):
        return False
    return all([is_wish_of(cluster, wish) for wish in value])


def are_scripts_of(cluster, value):
    """Whether the value is a tuple of scripts for a post of the cluster."""
    return is_tuple_within(value, 1, 8) and all([is_script_of(cluster, script) for script in value])


def has_right_seqs(client):
    """Whether no SEQ of the client's script is above 10 ** 9."""
    last = len(client[1]) - 1
    return last < 0 or seq_of(client, last) <= MOST


def is_client_of(cluster, value):
    """Whether the value is the state of a client of a post of the cluster."""
    return is_client(value) and is_script_of(cluster, value[1]) and has_right_seqs(value)


def is_letter_of(cluster, many, value):
    """Whether the value is a letter of a post of the cluster with so many clients."""
    if not is_letter(value) or value[1] >= many:
        return False
    return value[0] == "told" or is_wish_of(cluster, value[4])


def is_post(value):
    """Whether the value is a post."""
    if not is_tuple_of(value, 3) or not is_cluster(value[0]):
        return False
    cluster, clients, letters = value
    if not is_tuple_within(clients, 1, 8) or not all([is_client_of(cluster, client) for client in clients]):
        return False
    if not is_tuple_within(letters, 0, MOST_LETTERS):
        return False
    return all([is_letter_of(cluster, len(clients), letter) for letter in letters])


def is_event(value):
    """Whether the value is an event of a post."""
    if not isinstance(value, tuple) or len(value) == 0 or not isinstance(value[0], str):
        return False
    word, parts, many = value[0], value[1:], len(value) - 1
    if word == "send":
        return many == 1 and is_within(parts[0], 0, 7)
    if word in ("double", "lose", "bring"):
        return many == 1 and is_from(parts[0], 0)
    if word == "cut":
        return many == 3 and is_from(parts[0], 0) and is_cut(parts[1], parts[2])
    if word == "mend":
        return many == 2 and is_cut(parts[0], parts[1])
    return word in ("burn", "new") and many == 1 and is_within(parts[0], 0, 9)


def are_events(value):
    """Whether the value is a tuple of events that may be run."""
    return is_tuple_within(value, 0, 200) and all([is_event(event) for event in value])


def check_post(post):
    """InvalidPost for what is no post."""
    if not is_post(post):
        raise InvalidPost(post)


def check_events(events):
    """InvalidEvents for what is no tuple of events that may be run."""
    if not is_tuple_within(events, 0, 200):
        raise InvalidEvents(None)
    for index, event in enumerate(events):
        if not is_event(event):
            raise InvalidEvents(index)


def clients_from(marks, scripts):
    """The states of new clients of a store with these marks."""
    found = [mark_in(marks, name) for name in range(len(scripts))]
    return tuple([(0 if mark is None else mark[1], script, ()) for mark, script in zip(found, scripts)])


def begun(cluster, sight, scripts):
    """The new post of the mended cluster that was seen; None if a SEQ would be above 10 ** 9."""
    clients = clients_from(sight.meta[2], scripts)
    return (cluster, clients, ()) if all([has_right_seqs(client) for client in clients]) else None


def after_all(post, events):
    """The office in which the events were done on the post."""
    office = Office(post)
    for event in events:
        office.do(event)
    return office


def new_post(cluster, scripts):
    """The post of the mended cluster with clients that have these scripts, and no letters."""
    check_cluster(cluster)
    if not are_scripts_of(cluster, scripts):
        raise InvalidScripts(scripts)
    post = begun(cluster, seen_mended(cluster), scripts)
    if post is None:
        raise InvalidScripts(scripts)
    return post


def after_event(post, event):
    """The post behind the event, the same one if the event cannot be done."""
    check_post(post)
    if not is_event(event):
        raise InvalidEvent(event)
    return after_all(post, (event,)).post()


def after_events(post, events):
    """The post behind the events, one after the other."""
    check_post(post)
    check_events(events)
    return after_all(post, events).post()


def settled(post):
    """The post behind its settling: no letters, all shelves renewed and mended, each client asking in its turn."""
    check_post(post)
    office = Office(post)
    office.settle()
    return office.post()


def answers_of(post):
    """The tuple of the clients' answers."""
    check_post(post)
    return tuple([client[2] for client in post[1]])
