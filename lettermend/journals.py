"""Journals: batches that happen whole or not at all on a disk, wherever they are cut, and its mending."""

from lettermend.checks import is_tuple_within
from lettermend.disks import after_writes, is_disk, is_write
from lettermend.errors import InvalidBatch, InvalidDisk, NotMended


def told_slots(disk):
    """The slots that the head of the disk tells."""
    return disk[1:1 + disk[0][0]] if disk[0] else ()


def is_head(value):
    """Whether the value is a head of a sound disk."""
    return value is None or value == () or len(value) == 1 and 1 <= value[0] <= 8


def are_slots(slots, places):
    """Whether all of the slots name, first, unlike places from 9 on, below `places`."""
    named = []
    for slot in slots:
        if not slot or not 9 <= slot[0] < places or slot[0] in named:
            return False
        named.append(slot[0])
    return True


def is_sound(value):
    """Whether the value is a sound disk."""
    if not is_disk(value) or not is_head(value[0]):
        return False
    slots = told_slots(value)
    if not are_slots(slots, len(value)):
        return False
    named = [slot[0] for slot in slots]
    return all([value[place] is not None or place in named for place in range(9, len(value))])


def is_quiet(value):
    """Whether the value is a quiet disk."""
    return is_sound(value) and value[0] == ()


def check_sound(disk):
    """InvalidDisk for what is no sound disk."""
    if not is_sound(disk):
        raise InvalidDisk(disk)


def is_batch(value, places):
    """Whether the value is a batch for a disk of so many places."""
    if not is_tuple_within(value, 1, 8) or not all([is_write(write, 9, places, 80) for write in value]):
        return False
    return len(set([write[0] for write in value])) == len(value)


def told_writes(disk):
    """The writes that the slots hold that the head of a sound disk tells."""
    return [(slot[0], slot[1:]) for slot in told_slots(disk)]


def meant(disk):
    """The contents of a sound disk."""
    blocks = list(disk)
    for place, block in told_writes(disk):
        blocks[place] = block
    return tuple(blocks[9:])


def steps_for(batch):
    """The steps of a batch."""
    steps = [(slot, (place, *block)) for slot, (place, block) in enumerate(batch, start=1)]
    return (*steps, (0, (len(batch),)), *batch, (0, ()))


def mending_for(disk):
    """The mending of a sound disk."""
    if disk[0] == ():
        return ()
    return (*told_writes(disk), (0, ()))


def contents(disk):
    """What a sound disk means: its blocks from place 9 on, with those of the slots that its head tells."""
    check_sound(disk)
    return meant(disk)


def batch_steps(disk, batch):
    """The writes by which the batch happens on a quiet disk, whole or not at all."""
    check_sound(disk)
    if not is_batch(batch, len(disk)):
        raise InvalidBatch(batch)
    if disk[0] != ():
        raise NotMended(disk[0])
    return steps_for(batch)


def disk_mending(disk):
    """The writes that bring a sound disk to rest: its contents stay."""
    check_sound(disk)
    return mending_for(disk)


def mended_disk(disk):
    """The disk after its whole mending."""
    check_sound(disk)
    writes = mending_for(disk)
    return after_writes(disk, writes, len(writes), False)
