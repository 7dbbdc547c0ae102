"""Disks of blocks, written one block after the other, and what stands there when the power fails."""

from lettermend.checks import check_cut, is_tuple_of, is_tuple_within, is_whole, is_within
from lettermend.errors import InvalidBlock, InvalidDisk, InvalidHomes, InvalidPlace, InvalidWrites


def is_whole_block(value, most):
    """Whether the value is a block of at most so many numbers that is not torn."""
    if not isinstance(value, tuple) or len(value) > most:
        return False
    return all([is_whole(number) and number >= 0 for number in value])


def is_block(value):
    """Whether the value is a block."""
    return value is None or is_whole_block(value, 90)


def is_disk(value):
    """Whether the value is a disk."""
    return is_tuple_within(value, 11, 70) and all([block is None or is_whole_block(block, 90) for block in value])


def is_write(value, least, places, most):
    """Whether the value is a write of at most `most` numbers at a place from `least` on, below `places`."""
    return is_tuple_of(value, 2) and is_within(value[0], least, places - 1) and is_whole_block(value[1], most)


def check_disk(disk):
    """InvalidDisk for what is no disk."""
    if not is_disk(disk):
        raise InvalidDisk(disk)


def check_place(disk, place):
    """InvalidPlace for what is no place of the disk."""
    if not is_within(place, 0, len(disk) - 1):
        raise InvalidPlace(place)


def with_block(disk, place, block):
    """The disk with this block, or None, at the place."""
    return (*disk[:place], block, *disk[place + 1:])


def after_writes(disk, writes, count, torn):
    """The disk after these writes, run to the cut."""
    blocks = list(disk)
    for place, block in writes[:count]:
        blocks[place] = block
    if torn and count < len(writes):
        blocks[writes[count][0]] = None
    return tuple(blocks)


def fresh_disk(homes):
    """The fresh disk with so many homes."""
    if not is_within(homes, 1, 60):
        raise InvalidHomes(homes)
    return ((),) * (10 + homes)


def written(disk, place, block):
    """The disk with this block at the place."""
    check_disk(disk)
    check_place(disk, place)
    if not is_whole_block(block, 90):
        raise InvalidBlock(block)
    return with_block(disk, place, block)


def torn_at(disk, place):
    """The disk with a torn block at the place."""
    check_disk(disk)
    check_place(disk, place)
    return with_block(disk, place, None)


def run_writes(disk, writes, count, torn):
    """The disk after these writes, run to the cut: the first `count` done and, if `torn`, the next one torn."""
    check_disk(disk)
    if not is_tuple_within(writes, 0, 18) or not all([is_write(write, 0, len(disk), 90) for write in writes]):
        raise InvalidWrites(writes)
    check_cut(count, torn)
    return after_writes(disk, writes, count, torn)
