"""On which of the shelves in use a chunk is placed."""

from lettermend.checks import check_chunk, check_shelf, is_ascending, is_tuple_within, is_within
from lettermend.errors import InvalidShelf, InvalidUsed, InvalidWidth


def score_on(chunk, shelf):
    """The score of the chunk on the shelf."""
    return (chunk * 7919 + shelf * 104729 + chunk * shelf * 631) % 1009


def ordered(chunk, used):
    """The shelves in the order of the chunk."""
    scores = sorted([(score_on(chunk, shelf), shelf) for shelf in used])
    return tuple([pair[1] for pair in scores])


def placed_among(chunk, used, width):
    """The ascending shelves of the lot on which the chunk is placed."""
    return tuple(sorted(ordered(chunk, used)[:width]))


def is_lot(value):
    """Whether the value is a lot in use."""
    return is_tuple_within(value, 1, 10) and is_ascending(value, 0) and value[-1] <= 9


def check_used(used):
    """InvalidUsed for what is no lot in use."""
    if not is_lot(used):
        raise InvalidUsed(used)


def check_width(width, most):
    """InvalidWidth for what is no whole number from 1 to `most`."""
    if not is_within(width, 1, most):
        raise InvalidWidth(width)


def score(chunk, shelf):
    """The score of the chunk on the shelf: the lesser, the sooner it is placed there."""
    check_chunk(chunk)
    check_shelf(shelf, 10)
    return score_on(chunk, shelf)


def order_of(chunk, used):
    """All shelves of the lot in the order of the chunk."""
    check_chunk(chunk)
    check_used(used)
    return ordered(chunk, used)


def placed(chunk, used, width):
    """The ascending shelves of the lot on which the chunk is placed."""
    check_chunk(chunk)
    check_used(used)
    check_width(width, len(used))
    return placed_among(chunk, used, width)


def gone_and_come(chunk, used, other, width):
    """The pair of the shelves on which the chunk is placed for the first lot alone, and for the second one alone."""
    check_chunk(chunk)
    check_used(used)
    check_used(other)
    check_width(width, min(len(used), len(other)))
    before, behind = placed_among(chunk, used, width), placed_among(chunk, other, width)
    gone = tuple([shelf for shelf in before if shelf not in behind])
    come = tuple([shelf for shelf in behind if shelf not in before])
    return gone, come


def load(used, width, shelf):
    """How many of any 1009 chunks in a row are placed on the shelf of the lot."""
    check_used(used)
    check_width(width, len(used))
    if not is_within(shelf, 0, 9) or shelf not in used:
        raise InvalidShelf(shelf)
    return sum([1 for chunk in range(1, 1010) if shelf in placed_among(chunk, used, width)])
