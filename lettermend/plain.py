"""The plain store: a meaning without shelves, to which the wishes of a record are put one after the other."""

from lettermend.checks import is_ascending, is_same
from lettermend.meanings import answer_to
from lettermend.office import found_at
from lettermend.wishes import is_read, seq_of


def answer_and_plain(plain, width, client, name, at):
    """The pair of the plain store's answer to the client's wish and of the plain store behind it."""
    wish = client[1][at]
    if is_read(wish):
        return found_at(plain[3], wish[1]), plain
    return answer_to(plain, width, (name, seq_of(client, at), wish))


def is_ordered(plain, width, clients, rows, behind):
    """Whether the record of a run on a new post is one of a plain store that does one wish at a time.

    Told are the meanings of the cluster ahead of the run and behind it, and the clients' states behind it.
    """
    for name, at, sent, done, taken in rows:
        if not is_ascending([index for index in (sent, done, taken) if index is not None], 0):
            return False
        answer, plain = answer_and_plain(plain, width, clients[name], name, at)
        if taken is not None and not is_same(clients[name][2][at], answer):
            return False
    return plain[1:] == behind[1:]
