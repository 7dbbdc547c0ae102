"""Shelves: disks whose contents are a root and pieces of chunks in homes. All is read of the contents alone.

What is asked of `blocks` is asked of the contents of a shelf, without a check.
"""

from lettermend.checks import check_chunk, is_ascending, is_from, is_tuple_of, is_tuple_within
from lettermend.errors import Full, InvalidDisk, InvalidPiece, InvalidRoot, NotHeld
from lettermend.journals import is_sound, meant


def is_root(value):
    """Whether the value is a root."""
    if not is_tuple_within(value, 3, 72):
        return is_tuple_of(value, 0)
    return is_from(value[0], 1) and is_from(value[1], 1) and is_ascending(value[2:], 1)


def is_home(block):
    """Whether a block that is not torn is a home's block."""
    return not block or 2 <= len(block) <= 10 and block[0] >= 1


def is_piece(value):
    """Whether the value is a piece, of whatever prime and room."""
    return is_tuple_within(value, 1, 9) and all([is_from(number, 0) for number in value])


def pairs_in(blocks):
    """The ascending tuple of the pairs of a chunk and its piece."""
    return tuple(sorted([(block[0], block[1:]) for block in blocks[1:] if block]))


def home_holding(blocks, chunk):
    """The place of the home that holds the chunk; None."""
    for place, block in enumerate(blocks[1:], start=10):
        if block and block[0] == chunk:
            return place
    return None


def piece_held(blocks, chunk):
    """The piece of the chunk; None."""
    place = home_holding(blocks, chunk)
    return None if place is None else blocks[place - 9][1:]


def homes_free(blocks):
    """The ascending places of the free homes."""
    return tuple([place for place, block in enumerate(blocks[1:], start=10) if not block])


def batch_to_put(blocks, chunk, piece):
    """The batch that puts the piece; () if neither a home holds the chunk nor one is free."""
    place = home_holding(blocks, chunk)
    free = homes_free(blocks)
    if place is None and not free:
        return ()
    return ((free[0] if place is None else place, (chunk, *piece)),)


def batch_to_drop(blocks, chunk):
    """The batch that drops the chunk; () if no home holds it."""
    place = home_holding(blocks, chunk)
    return () if place is None else ((place, ()),)


def batch_for_root(root):
    """The batch that writes the root."""
    return ((9, root),)


def is_shelf(value):
    """Whether the value is a shelf."""
    if not is_sound(value):
        return False
    blocks = meant(value)
    if not is_root(blocks[0]) or not all([is_home(block) for block in blocks[1:]]):
        return False
    chunks = [block[0] for block in blocks[1:] if block]
    return len(set(chunks)) == len(chunks)


def check_shelf_disk(disk):
    """InvalidDisk for what is no shelf."""
    if not is_shelf(disk):
        raise InvalidDisk(disk)


def shelf_meaning(disk):
    """The pair of the root and of the ascending pairs of a chunk and its piece."""
    check_shelf_disk(disk)
    blocks = meant(disk)
    return blocks[0], pairs_in(blocks)


def shelf_root(disk):
    """The root, () if there is none."""
    check_shelf_disk(disk)
    return meant(disk)[0]


def held(disk):
    """The ascending chunks that the shelf holds."""
    check_shelf_disk(disk)
    return tuple([pair[0] for pair in pairs_in(meant(disk))])


def piece_of(disk, chunk):
    """The chunk's piece; None."""
    check_shelf_disk(disk)
    check_chunk(chunk)
    return piece_held(meant(disk), chunk)


def home_of(disk, chunk):
    """The place of the home that holds the chunk; None."""
    check_shelf_disk(disk)
    check_chunk(chunk)
    return home_holding(meant(disk), chunk)


def free_homes(disk):
    """The ascending places of the free homes."""
    check_shelf_disk(disk)
    return homes_free(meant(disk))


def put_batch(disk, chunk, piece):
    """The batch that puts the chunk's piece into its home, otherwise into the lowest free one."""
    check_shelf_disk(disk)
    check_chunk(chunk)
    if not is_piece(piece):
        raise InvalidPiece(piece)
    batch = batch_to_put(meant(disk), chunk, piece)
    if not batch:
        raise Full(chunk)
    return batch


def drop_batch(disk, chunk):
    """The batch that frees the home that holds the chunk."""
    check_shelf_disk(disk)
    check_chunk(chunk)
    batch = batch_to_drop(meant(disk), chunk)
    if not batch:
        raise NotHeld(chunk)
    return batch


def root_batch(disk, root):
    """The batch that writes the root."""
    check_shelf_disk(disk)
    if not is_root(root) or not root:
        raise InvalidRoot(root)
    return batch_for_root(root)
