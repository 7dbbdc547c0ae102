"""Wishes, the clients that have them, and the letters between clients and the store."""

from lettermend.checks import is_from, is_tuple_of, is_tuple_within, is_within, is_word
from lettermend.clustererrors import InvalidClient, InvalidIndex, InvalidLetter
from lettermend.meanings import is_request_deed
from lettermend.packing import MOST, OUTCOMES
from lettermend.trees import are_file_numbers, is_path


def is_read(wish):
    """Whether a wish is a read, and no deed."""
    return wish[0] == "read"


def is_found(value):
    """Whether the value may be what a read finds: None, or a file's numbers."""
    return value is None or are_file_numbers(value)


def is_wish(value):
    """Whether the value is a wish."""
    if is_request_deed(value):
        return True
    return is_tuple_of(value, 2) and is_word(value[0], ("read",)) and is_path(value[1])


def is_answer_to(wish, value):
    """Whether the value is an answer that a client takes to a wish."""
    return is_found(value) if is_read(wish) else is_word(value, OUTCOMES)


def is_client(value):
    """Whether the value is a client's state."""
    if not is_tuple_of(value, 3) or not is_from(value[0], 0):
        return False
    _, script, answers = value
    if not is_tuple_within(script, 0, 12) or not all([is_wish(wish) for wish in script]):
        return False
    if not is_tuple_within(answers, 0, len(script)):
        return False
    return all([is_answer_to(wish, answer) for wish, answer in zip(script, answers)])


def is_asking(value):
    """Whether the value is a letter that goes to the store."""
    if not is_tuple_of(value, 5) or not is_word(value[0], ("ask",)) or not is_wish(value[4]):
        return False
    least = 0 if is_read(value[4]) else 1
    return is_within(value[1], 0, 7) and is_within(value[2], 0, 11) and is_within(value[3], least, MOST)


def is_telling(value):
    """Whether the value is a letter that goes back to a client."""
    if not is_tuple_of(value, 4) or not is_word(value[0], ("told",)):
        return False
    if not is_within(value[1], 0, 7) or not is_within(value[2], 0, 11):
        return False
    return is_found(value[3]) or is_word(value[3], OUTCOMES) or is_word(value[3], ("old", "early", "down", "full"))


def is_letter(value):
    """Whether the value is a letter."""
    return is_asking(value) or is_telling(value)


def waiting_at(client):
    """The index of the wish for which the client waits; None if it is through."""
    _, script, answers = client
    return len(answers) if len(answers) < len(script) else None


def seq_of(client, at):
    """The SEQ of the wish at this index."""
    return client[0] + len([wish for wish in client[1][:at + 1] if not is_read(wish)])


def shown(client, letter, name):
    """The client's state after the told letter is shown to it, which takes it or not."""
    start, script, answers = client
    _, to, at, answer = letter
    if to != name or at != waiting_at(client) or not is_answer_to(script[at], answer):
        return client
    return start, script, (*answers, answer)


def check_client(client):
    """InvalidClient for what is no client's state."""
    if not is_client(client):
        raise InvalidClient(client)


def waits_at(client):
    """The index of the wish for which the client waits; None if it is through."""
    check_client(client)
    return waiting_at(client)


def seq_at(client, at):
    """The SEQ of the wish at an index of the script."""
    check_client(client)
    if not is_within(at, 0, len(client[1]) - 1):
        raise InvalidIndex(at)
    return seq_of(client, at)


def takes(client, letter, name):
    """The client's state after the told letter is shown to it, `name` being its index."""
    check_client(client)
    if not is_telling(letter):
        raise InvalidLetter(letter)
    if not is_within(name, 0, 7):
        raise InvalidIndex(name)
    return shown(client, letter, name)
