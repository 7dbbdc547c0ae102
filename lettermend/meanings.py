"""What a cluster means, and what requests make of it."""

from lettermend.checks import is_from, is_tuple_of, is_tuple_within, is_within, is_word
from lettermend.clustererrors import InvalidClient, InvalidRequest, InvalidRequests
from lettermend.errors import InvalidMeaning
from lettermend.packing import MOST, are_marks
from lettermend.placement import check_width, is_lot
from lettermend.trees import after_deed, is_tree_deed, is_view


def is_meaning(value):
    """Whether the value is a meaning."""
    if not is_tuple_of(value, 4) or not is_from(value[0], 1):
        return False
    return is_lot(value[1]) and are_marks(value[2]) and is_view(value[3])


def is_request_deed(value):
    """Whether the value is a deed: one of a tree, or a shelf's joining or leaving."""
    if is_tree_deed(value):
        return True
    return is_tuple_of(value, 2) and is_word(value[0], ("join", "leave")) and is_within(value[1], 0, 9)


def is_request(value):
    """Whether the value is a request."""
    if not is_tuple_of(value, 3) or not is_within(value[0], 0, 7) or not is_within(value[1], 1, MOST):
        return False
    return is_request_deed(value[2])


def check_meaning(meaning):
    """InvalidMeaning for what is no meaning."""
    if not is_meaning(meaning):
        raise InvalidMeaning(meaning)


def mark_in(marks, client):
    """The client's mark; None."""
    for mark in marks:
        if mark[0] == client:
            return mark
    return None


def marks_with(marks, mark):
    """The marks with this one in the place of its client's."""
    others = [other for other in marks if other[0] != mark[0]]
    return tuple(sorted([*others, mark]))


def known_reply(marks, request):
    """The reply to a request that is not to be tried; None."""
    client, seq, _ = request
    mark = mark_in(marks, client)
    done = 0 if mark is None else mark[1]
    if seq < done:
        return "old"
    if seq == done:
        return mark[2]
    return "early" if seq > done + 1 else None


def after_joining(used, shelf):
    """The pair of the outcome of a shelf's joining and of the shelves in use behind it."""
    if shelf in used:
        return "used", used
    return "done", tuple(sorted([*used, shelf]))


def after_leaving(used, width, shelf):
    """The pair of the outcome of a shelf's leaving and of the shelves in use behind it."""
    if shelf not in used:
        return "unused", used
    if len(used) == width:
        return "too few", used
    return "done", tuple([other for other in used if other != shelf])


def answer_to(meaning, width, request):
    """The pair of the reply to a request and of the meaning behind it."""
    version, used, marks, view = meaning
    client, seq, deed = request
    reply = known_reply(marks, request)
    if reply is not None:
        return reply, meaning
    if deed[0] == "join":
        reply, used = after_joining(used, deed[1])
    elif deed[0] == "leave":
        reply, used = after_leaving(used, width, deed[1])
    else:
        reply, view = after_deed(view, deed)
    return reply, (version + 1, used, marks_with(marks, (client, seq, reply)), view)


def mark_of(meaning, client):
    """The client's mark; None."""
    check_meaning(meaning)
    if not is_within(client, 0, 7):
        raise InvalidClient(client)
    return mark_in(meaning[2], client)


def answer(meaning, width, request):
    """The pair of the reply to a request and of the meaning behind it."""
    check_meaning(meaning)
    check_width(width, len(meaning[1]))
    if not is_request(request):
        raise InvalidRequest(request)
    return answer_to(meaning, width, request)


def answers(meaning, width, requests):
    """The pair of the replies to the requests, one after the other, and of the meaning behind them."""
    check_meaning(meaning)
    check_width(width, len(meaning[1]))
    if not is_tuple_within(requests, 0, 60):
        raise InvalidRequests(None)
    for index, request in enumerate(requests):
        if not is_request(request):
            raise InvalidRequests(index)
    replies = []
    for request in requests:
        reply, meaning = answer_to(meaning, width, request)
        replies.append(reply)
    return tuple(replies), meaning
