"""Claims of clusters, their mending, requests and posts, and whether a paper shows them."""

from lettermend.checks import first_no_shelf, is_ascending, is_from, is_row, is_same, is_tuple_of
from lettermend.checks import is_tuple_within, is_within
from lettermend.clusters import after_steps, contents_told, is_cluster, shelves_standing
from lettermend.coding import letter_for, lines_for, pieces_on, size_for
from lettermend.errors import Full
from lettermend.files import many_for
from lettermend.meanings import answer_to, is_meaning, is_request, known_reply
from lettermend.mending import is_at_rest, steps_of_mending
from lettermend.plain import is_ordered
from lettermend.post import after_all, are_events, are_scripts_of, begun
from lettermend.records import office_and_done, record_in
from lettermend.requests import is_request_to, tried
from lettermend.sights import chunks_named, greatest_root, meta_told, pieces_lying, seen, seen_or_none, view_from
from lettermend.surveys import spare_in


def sight_of(value):
    """The sight of a readable cluster; None for whatever else."""
    return seen_or_none(value) if is_cluster(value) else None


def sight_at_rest(value):
    """The sight of a mended cluster; None for whatever else."""
    return seen(value) if is_cluster(value) and is_at_rest(value) else None


def mending_steps(cluster, sight):
    """The steps of the mending of the cluster that was seen; None if it tells Full."""
    try:
        steps = steps_of_mending(cluster, sight)
    except Full:
        return None
    return steps


def is_message_of(scheme, lines, told, chunk, message):
    """Whether the message is the chunk's: few enough of the pieces that lie there are other ones than its."""
    lying = pieces_lying(told, chunk)
    pieces = pieces_on(scheme, lines, message)
    wrong = [shelf for shelf, piece in lying if piece != pieces[shelf]]
    return len(lying) >= scheme[3] + 2 * len(wrong)


def messages_told(cluster, told, paper):
    """The messages that the paper tells, by their chunks, if each is that of its chunk; None."""
    if not isinstance(paper, tuple) or not all([is_tuple_of(pair, 2) for pair in paper]):
        return None
    scheme = cluster[0]
    if not is_ascending([pair[0] for pair in paper], 1):
        return None
    if not all([is_row(scheme[0], pair[1], size_for(scheme)) for pair in paper]):
        return None
    lines = lines_for(scheme)
    if not all([is_message_of(scheme, lines, told, chunk, message) for chunk, message in paper]):
        return None
    return {chunk: message for chunk, message in paper}


def meaning_told(cluster, told, messages):
    """What the cluster means, if these are the messages of just the chunks that are named; None."""
    root = greatest_root(told)
    if not root or len(root) - 2 != many_for(cluster[0], root[1]):
        return None
    if not all([chunk in messages for chunk in root[2:]]):
        return None
    meta = meta_told(cluster, root, [messages[chunk] for chunk in root[2:]])
    if meta is None or chunks_named(root, meta) != list(messages):
        return None
    return (*meta[:3], view_from(meta[3], messages))


def claims_means(paper, cluster, meaning):
    """The cluster means this, as the messages that the paper tells show."""
    if not is_cluster(cluster):
        return False
    told = contents_told(cluster)
    messages = messages_told(cluster, told, paper)
    found = None if messages is None else meaning_told(cluster, told, messages)
    return found is not None and is_same(meaning, found)


def claims_lost(paper, cluster, chunk):
    """Fewer shelves hold the chunk than read it."""
    if not is_tuple_of(paper, 0) or not is_cluster(cluster) or not is_from(chunk, 1):
        return False
    return len(pieces_lying(contents_told(cluster), chunk)) < cluster[0][3]


def claims_decides(paper, cluster, request, count):
    """The request counts just if so many of its steps are done."""
    sight = sight_at_rest(cluster)
    if not is_tuple_of(paper, 0) or sight is None or not is_request_to(cluster, request):
        return False
    deciding = tried(cluster, sight, request)[2]
    return deciding is not None and is_same(count, deciding)


def indexes_tried(meaning, width, requests):
    """The indexes of the requests that are tried when they are asked one after the other."""
    indexes = []
    for index, request in enumerate(requests):
        if known_reply(meaning[2], request) is None:
            indexes.append(index)
        meaning = answer_to(meaning, width, request)[1]
    return tuple(indexes)


def claims_once(paper, meaning, width, requests, indexes):
    """Just the requests at these indexes are tried."""
    if not is_tuple_of(paper, 0) or not is_meaning(meaning) or not is_within(width, 1, len(meaning[1])):
        return False
    if not is_tuple_within(requests, 0, 60) or not all([is_request(request) for request in requests]):
        return False
    return is_same(indexes, indexes_tried(meaning, width, requests))


def claims_spare(paper, cluster, count):
    """So many shelves may burn, whichever they are."""
    sight = sight_of(cluster)
    if not is_tuple_of(paper, 0) or sight is None or not is_within(count, 0, len(shelves_standing(cluster))):
        return False
    return count <= spare_in(sight)


def are_standing(sight, value):
    """Whether the value is an ascending tuple of shelves that stand."""
    if not isinstance(value, tuple) or first_no_shelf(value, len(sight.told), None) is not None:
        return False
    return all([sight.stands(shelf) for shelf in value])


def loses_chunk(sight, shelves, chunk):
    """Whether too few right holders of the named chunk are left when the shelves burn."""
    right, wrong, _, _ = sight.holding(chunk)
    left = [len([shelf for shelf in lot if shelf not in shelves]) for lot in (right, wrong)]
    return left[0] < sight.scheme[3] + left[1]


def claims_loses(paper, cluster, shelves):
    """When these shelves burn, the root or the chunk that the paper tells is lost."""
    sight = sight_of(cluster)
    if sight is None or not are_standing(sight, shelves):
        return False
    if is_tuple_of(paper, 0):
        return all([shelf in shelves for shelf in sight.rooted()])
    if not is_tuple_of(paper, 1) or not is_from(paper[0], 1) or paper[0] not in sight.found:
        return False
    return loses_chunk(sight, shelves, paper[0])


def claims_ends(paper, cluster, other):
    """Mending leaves the other cluster in the end."""
    sight = sight_of(cluster)
    steps = None if sight is None else mending_steps(cluster, sight)
    if not is_tuple_of(paper, 0) or steps is None:
        return False
    return is_same(other, after_steps(cluster, steps, len(steps), False))


def are_givers(sight, chunk, shelf, givers):
    """Whether these are as many right holders of the chunk as mend, without the shelf."""
    if not is_tuple_of(givers, sight.scheme[4]) or first_no_shelf(givers, len(sight.told), shelf) is not None:
        return False
    right = sight.holding(chunk)[0]
    return all([giver in right for giver in givers])


def claims_gives(paper, cluster, chunk, shelf, givers, letters):
    """These are the givers' letters of the named chunk for the shelf; the paper is the shelf's right piece."""
    sight = sight_of(cluster)
    if sight is None or not is_from(chunk, 1) or chunk not in sight.found:
        return False
    scheme = sight.scheme
    if not is_within(shelf, 0, scheme[2] - 1) or not are_givers(sight, chunk, shelf, givers):
        return False
    lines = lines_for(scheme)
    pieces = pieces_on(scheme, lines, sight.message(chunk))
    told = tuple([letter_for(scheme, lines[shelf], pieces[giver]) for giver in givers])
    return is_same(letters, told) and is_same(paper, pieces[shelf])


def post_told(cluster, scripts, events):
    """The new post of the mended cluster, if these are scripts for it, and events; None."""
    sight = sight_at_rest(cluster)
    if sight is None or not are_scripts_of(cluster, scripts) or not are_events(events):
        return None
    return begun(cluster, sight, scripts)


def claims_answers(paper, cluster, scripts, events, answers):
    """The clients have these answers when the events are run on a new post."""
    post = post_told(cluster, scripts, events)
    if not is_tuple_of(paper, 0) or post is None:
        return False
    return is_same(answers, tuple([client[2] for client in after_all(post, events).clients]))


def claims_order(paper, cluster, scripts, events):
    """The run on a new post is that of a plain store that does one wish at a time, as the record shows."""
    post = post_told(cluster, scripts, events)
    if post is None:
        return False
    office, done = office_and_done(post, events)
    rows, sight = record_in(office, done), seen_or_none(office.cluster)
    if sight is None or not is_same(paper, rows):
        return False
    return is_ordered(seen(cluster).meaning(), cluster[1], office.clients, rows, sight.meaning())


def claims_mended(paper, cluster):
    """The cluster is mended."""
    return is_tuple_of(paper, 0) and is_cluster(cluster) and is_at_rest(cluster)


def claims_unmended(paper, cluster):
    """The cluster is readable, and the paper is the first step of its mending."""
    sight = sight_of(cluster)
    steps = None if sight is None else mending_steps(cluster, sight)
    return bool(steps) and is_same(paper, steps[0])


def claims_replies(paper, cluster, request, reply):
    """The mended cluster replies so to the request."""
    sight = sight_at_rest(cluster)
    if not is_tuple_of(paper, 0) or sight is None or not is_request_to(cluster, request):
        return False
    return is_same(reply, tried(cluster, sight, request)[0])


MANY_PARTS = {"means": 2, "lost": 2, "decides": 3, "once": 4, "spare": 2, "loses": 2, "ends": 2, "gives": 5,
              "answers": 4, "order": 3, "mended": 1, "unmended": 1, "replies": 3}
CLAIMS = {"means": claims_means, "lost": claims_lost, "decides": claims_decides, "once": claims_once,
          "spare": claims_spare, "loses": claims_loses, "ends": claims_ends, "gives": claims_gives,
          "answers": claims_answers, "order": claims_order, "mended": claims_mended, "unmended": claims_unmended,
          "replies": claims_replies}


def is_shown_of_clusters(word, parts, paper):
    """Whether the paper shows the claim of this word and these parts; False for a word of no such claim."""
    if word not in CLAIMS or len(parts) != MANY_PARTS[word]:
        return False
    claims = CLAIMS[word]
    return claims(paper, *parts)
