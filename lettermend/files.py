"""Numbers of any length, cut up into messages and put together again."""

from lettermend.checks import check_numbers, is_row, is_tuple_of, is_within
from lettermend.clustererrors import InvalidLength, InvalidMessages
from lettermend.coding import size_for
from lettermend.schemes import check_scheme


def many_for(scheme, length):
    """How many messages so many numbers want."""
    size = size_for(scheme)
    return (length + size - 1) // size


def messages_for(scheme, numbers):
    """The messages into which the numbers are cut up."""
    size = size_for(scheme)
    many = many_for(scheme, len(numbers))
    filled = list(numbers) + [0] * (many * size - len(numbers))
    return tuple([tuple(filled[at * size:at * size + size]) for at in range(many)])


def numbers_from(length, messages):
    """The first `length` numbers of the messages."""
    return tuple([number for message in messages for number in message][:length])


def check_length(length):
    """InvalidLength for what is no whole number from 0 to 30000."""
    if not is_within(length, 0, 30000):
        raise InvalidLength(length)


def check_messages(scheme, messages, many):
    """InvalidMessages for what are no so many messages."""
    if not is_tuple_of(messages, many):
        raise InvalidMessages(None)
    for index, message in enumerate(messages):
        if not is_row(scheme[0], message, size_for(scheme)):
            raise InvalidMessages(index)


def many_chunks(scheme, length):
    """How many messages so many numbers want."""
    check_scheme(scheme)
    check_length(length)
    return many_for(scheme, length)


def cut_up(scheme, numbers):
    """The messages into which the numbers are cut up, the last one filled up with 0."""
    check_scheme(scheme)
    check_numbers(scheme[0], numbers)
    return messages_for(scheme, numbers)


def put_together(scheme, length, messages):
    """The first `length` numbers of the messages, of which there are just as many as these want."""
    check_scheme(scheme)
    check_length(length)
    check_messages(scheme, messages, many_for(scheme, length))
    return numbers_from(length, messages)
