"""Posts for tests, and their events and records by the words of points 56 to 60, of what stands ahead of the post."""

from lettermend.clusters import cut_steps, done_steps, new_cluster
from lettermend.errors import StoreError
from lettermend.harm import burnt, renewed
from lettermend.meanings import answer, mark_of
from lettermend.mending import mended_cluster, steps_to_mend
from lettermend.reading import meaning
from lettermend.requests import read, request_steps
from lettermend.surveys import spare
from lettermend.wishes import seq_at, takes, waits_at
from tests.making import FOUR, ONES, SIX, TIGHT

MAKE_A, MAKE_B, READ_A, READ_B = ("make", ("a",)), ("make", ("b",)), ("read", ("a",)), ("read", ("b",))
PUT_A, PUT_B, DROP_A = ("put", ("a",), (1, 2)), ("put", ("b",), tuple(range(9))), ("remove", ("a",))
SMALL = new_cluster(FOUR, 4, (0, 1, 2, 3), 30)
WIDE = new_cluster(SIX, 5, (0, 1, 2, 3, 4), 40)
LARGE = new_cluster(ONES, 7, tuple(range(8)), 40)
TIGHTER = new_cluster(TIGHT, 5, (0, 1, 2, 3, 4), 40)
SCRIPTS = ((PUT_A, READ_B, DROP_A, READ_A), (MAKE_A, PUT_B, READ_A, ("copy", ("b",), ("a", "x"))),
           (READ_A, ("join", 3), ("leave", 0), READ_B, MAKE_B))


def mended_or_none(cluster):
    """The mended cluster, None where that raises an error."""
    try:
        return mended_cluster(cluster)
    except StoreError:
        return None


def slow_answered(cluster, letter):
    """The answer to an ask letter and the cluster behind it, of the mended cluster."""
    _, client, _, seq, wish = letter
    if wish[0] == "read":
        node = read(cluster, wish[1])
        return (node[1] if node is not None and node[0] == "file" else None), cluster
    reply, steps = request_steps(cluster, (client, seq, wish))
    return reply, done_steps(cluster, steps)


def slow_brought(post, index, letter):
    """The post behind a letter's being brought, and what happened."""
    cluster, clients, letters = post
    rest = letters[:index] + letters[index + 1:]
    if letter[0] == "told":
        states = list(clients)
        states[letter[1]] = takes(clients[letter[1]], letter, letter[1])
        taken = states[letter[1]] != clients[letter[1]]
        return (cluster, tuple(states), rest), ("took",) + letter[1:3] if taken else ("left",)
    mended = mended_or_none(cluster)
    if mended is None:
        return post, None
    told, behind = slow_answered(mended, letter)
    return (behind, clients, rest + (("told",) + letter[1:3] + (told,),)), ("made",)


def slow_cut(post, index, count, torn, letter):
    """The post behind a letter's being cut."""
    cluster, clients, letters = post
    rest = letters[:index] + letters[index + 1:]
    mended = mended_or_none(cluster)
    if letter[0] == "ask" and mended is None:
        return post, None
    if letter[0] == "ask" and letter[4][0] != "read":
        steps = request_steps(mended, (letter[1], letter[3], letter[4]))[1]
        cluster = cut_steps(mended, steps, count, torn)
    return (cluster, clients, rest), ("lost",)


def slow_store(cluster, event):
    """The cluster behind an event of the store."""
    word, rest = event[0], event[1:]
    if word == "mend":
        return cluster if mended_or_none(cluster) is None else cut_steps(cluster, steps_to_mend(cluster), *rest)
    if rest[0] >= len(cluster[2]):
        return cluster
    up = cluster[2][rest[0]] is not None
    if word == "new":
        return cluster if up else renewed(cluster, rest[0])
    return burnt(cluster, rest[0]) if up and meaning(cluster) is not None and spare(cluster) > 0 else cluster


def slow_event(post, event):
    """The post behind an event, and what happened to letters: None if nothing."""
    cluster, clients, letters = post
    word, rest = event[0], event[1:]
    if word in ("mend", "burn", "new"):
        return (slow_store(cluster, event), clients, letters), None
    if word == "send":
        if rest[0] >= len(clients) or waits_at(clients[rest[0]]) is None or len(letters) > 59:
            return post, None
        state = clients[rest[0]]
        at = waits_at(state)
        letter = ("ask", rest[0], at, seq_at(state, at), state[1][at])
        return (cluster, clients, letters + (letter,)), ("sent", rest[0], at)
    if rest[0] >= len(letters) or word == "double" and len(letters) > 59:
        return post, None
    letter = letters[rest[0]]
    if word == "double":
        return (cluster, clients, letters + (letter,)), ("doubled",)
    if word == "lose":
        return (cluster, clients, letters[:rest[0]] + letters[rest[0] + 1:]), ("lost",)
    return slow_brought(post, rest[0], letter) if word == "bring" else slow_cut(post, *rest, letter)


def slow_marks(cluster):
    """The SEQ of each of eight clients in the meaning, 0 without a mark or a meaning."""
    meant = meaning(cluster)
    marks = [mark_of(meant, client) if meant else None for client in range(8)]
    return [mark[1] if mark else 0 for mark in marks]


def slow_record(post, events):
    """The record by the words of point 59, and the post behind the events."""
    made, sent, had, done = [None] * len(post[2]), {}, {}, {}
    for at, event in enumerate(events):
        before = slow_marks(post[0])
        post, what = slow_event(post, event)
        behind = slow_marks(post[0])
        kind = what[0] if what else None
        if kind == "sent":
            made.append(None)
            sent.setdefault(what[1:], at)
        elif kind == "doubled":
            made.append(made[event[1]])
        elif kind:
            origin = made.pop(event[1])
            if kind == "made":
                made.append(at)
            if kind == "took":
                had[what[1:]] = (origin, at)
        for client, state in enumerate(post[1]):
            for index, wish in enumerate(state[1]):
                if wish[0] != "read" and before[client] < seq_at(state, index) <= behind[client]:
                    done[client, index] = at
    rows = [key + (sent.get(key), at, had.get(key, (None, None))[1]) for key, at in done.items()]
    for key, (origin, at) in had.items():
        if post[1][key[0]][1][key[1]][0] == "read":
            rows.append(key + (sent.get(key), origin, at))
    rows.sort(key=lambda row: (row[3] is not None, row[4] if row[3] is None else row[3]))
    return tuple(rows), post


def plain_store(test, start, behind, rows):
    """The record's wishes, put to a plain store, find what the clients took; at the end it has what the cluster has."""
    plain = meaning(start[0])
    for client, at, sent, done, had in rows:
        times = [time for time in (sent, done, had) if time is not None]
        test.assertEqual(times, sorted(set(times)))
        state = behind[1][client]
        wish = state[1][at]
        if wish[0] == "read":
            found = [node for path, node in nodes_of(plain[3]) if path == wish[1]]
            told = found[0][1] if found and found[0][0] == "file" else None
        else:
            told, plain = answer(plain, start[0][1], (client, seq_at(state, at), wish))
        if had is not None:
            test.assertEqual(state[2][at], told)
    test.assertEqual(plain[1:], meaning(behind[0])[1:])


def nodes_of(room, path=()):
    """The pairs of each path and what stands there."""
    for name, node in room:
        yield path + (name,), node
        if node[0] == "room":
            yield from nodes_of(node[1], path + (name,))


def events_for(dice, many, clients, shelves, letters=6):
    """A row of so many events, of all kinds, most of them of letters."""
    rows = []
    for _ in range(many):
        kind = dice.below(22)
        index = dice.below(letters)
        cut = dice.below(120), dice.below(2) == 1
        if kind < 6:
            rows.append(("send", dice.below(clients)))
        elif kind < 13:
            rows.append(("bring", index))
        elif kind == 13:
            rows.append(("double", index))
        elif kind == 14:
            rows.append(("lose", index))
        elif kind < 18:
            rows.append(("cut", index) + cut)
        elif kind == 18:
            rows.append(("mend",) + cut)
        elif kind < 21:
            rows.append(("burn", dice.below(shelves)))
        else:
            rows.append(("new", dice.below(shelves)))
    return tuple(rows)
