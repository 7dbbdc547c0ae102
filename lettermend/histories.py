"""Histories of a disk: batches and mendings, each of them cut anywhere, and the contents that they leave."""

from lettermend.checks import is_cut, is_tuple_of, is_tuple_within, is_word
from lettermend.disks import after_writes, is_whole_block
from lettermend.errors import InvalidContents, InvalidHistory
from lettermend.journals import check_sound, is_batch, mending_for, steps_for


def is_event(value, places):
    """Whether the value is an event of a disk of so many places."""
    if is_tuple_of(value, 3):
        return is_word(value[0], ("mend",)) and is_cut(value[1], value[2])
    if not is_tuple_of(value, 4) or not is_word(value[0], ("batch",)):
        return False
    return is_batch(value[1], places) and is_cut(value[2], value[3])


def check_history(history, places):
    """InvalidHistory for what is no history of a disk of so many places."""
    if not is_tuple_within(history, 0, 40) or not all([is_event(event, places) for event in history]):
        raise InvalidHistory(history)


def after_mending(disk, count, torn):
    """The sound disk after its mending, run to the cut."""
    return after_writes(disk, mending_for(disk), count, torn)


def after_batch(disk, batch, count, torn):
    """The sound disk, mended whole, after the batch's steps, run to the cut; without steps for ()."""
    writes = mending_for(disk)
    disk = after_writes(disk, writes, len(writes), False)
    return after_writes(disk, steps_for(batch), count, torn) if batch else disk


def after_history(disk, history):
    """The disk after a history."""
    check_sound(disk)
    check_history(history, len(disk))
    for event in history:
        if event[0] == "mend":
            disk = after_mending(disk, event[1], event[2])
        else:
            disk = after_batch(disk, event[1], event[2], event[3])
    return disk


def told_contents(told, history):
    """The contents after a history, told from the first ones alone."""
    if not is_tuple_within(told, 2, 61) or not all([is_whole_block(block, 90) for block in told]):
        raise InvalidContents(told)
    check_history(history, len(told) + 9)
    blocks = list(told)
    for event in history:
        if event[0] == "batch" and event[2] > len(event[1]):
            for place, block in event[1]:
                blocks[place - 9] = block
    return tuple(blocks)
