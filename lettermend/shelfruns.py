"""What a shelf comes to by deeds and mendings, each of them cut anywhere."""

from lettermend.checks import is_cut, is_from, is_tuple_of, is_tuple_within, is_within, is_word
from lettermend.errors import InvalidDeed, InvalidHistory, InvalidHomes, InvalidMeaning
from lettermend.histories import after_batch, after_mending
from lettermend.journals import meant
from lettermend.shelves import batch_for_root, batch_to_drop, batch_to_put, check_shelf_disk, is_piece, is_root


def is_shelf_deed(value):
    """Whether the value is a shelf's deed."""
    if is_tuple_of(value, 3):
        return is_word(value[0], ("put",)) and is_from(value[1], 1) and is_piece(value[2])
    if not is_tuple_of(value, 2):
        return False
    if is_word(value[0], ("drop",)):
        return is_from(value[1], 1)
    return is_word(value[0], ("root",)) and is_root(value[1]) and value[1] != ()


def is_shelf_event(value):
    """Whether the value is an event of a shelf's history."""
    if not is_tuple_of(value, 3) or not is_cut(value[1], value[2]):
        return False
    return is_word(value[0], ("mend",)) or is_shelf_deed(value[0])


def check_shelf_history(history):
    """InvalidHistory for what is no shelf's history."""
    if not is_tuple_within(history, 0, 40) or not all([is_shelf_event(event) for event in history]):
        raise InvalidHistory(history)


def are_pairs(value):
    """Whether the value is an ascending tuple of at most 60 pairs of unlike chunks and their pieces."""
    if not is_tuple_within(value, 0, 60):
        return False
    ahead = 0
    for pair in value:
        if not is_tuple_of(pair, 2) or not is_from(pair[0], ahead + 1) or not is_piece(pair[1]):
            return False
        ahead = pair[0]
    return True


def batch_for(blocks, deed):
    """The deed's batch for a shelf with these contents, () if there is none."""
    if deed[0] == "put":
        return batch_to_put(blocks, deed[1], deed[2])
    if deed[0] == "drop":
        return batch_to_drop(blocks, deed[1])
    return batch_for_root(deed[1])


def shelf_batch(disk, deed):
    """The deed's batch, () if there is none."""
    check_shelf_disk(disk)
    if not is_shelf_deed(deed):
        raise InvalidDeed(deed)
    return batch_for(meant(disk), deed)


def shelf_after(disk, history):
    """The disk after a shelf's history."""
    check_shelf_disk(disk)
    check_shelf_history(history)
    for deed, count, torn in history:
        if deed == "mend":
            disk = after_mending(disk, count, torn)
        else:
            disk = after_batch(disk, batch_for(meant(disk), deed), count, torn)
    return disk


def shelf_told(meaning, homes, history):
    """The meaning, after a shelf's history, of a shelf with so many homes, told from its first meaning alone."""
    if not is_tuple_of(meaning, 2) or not is_root(meaning[0]) or not are_pairs(meaning[1]):
        raise InvalidMeaning(meaning)
    if not is_within(homes, max(1, len(meaning[1])), 60):
        raise InvalidHomes(homes)
    check_shelf_history(history)
    root = meaning[0]
    pieces = {chunk: piece for chunk, piece in meaning[1]}
    for deed, count, _ in history:
        if deed == "mend" or count < 2:
            continue
        if deed[0] == "root":
            root = deed[1]
        elif deed[0] == "drop" and deed[1] in pieces:
            del pieces[deed[1]]
        elif deed[0] == "put" and (deed[1] in pieces or len(pieces) < homes):
            pieces[deed[1]] = deed[2]
    return root, tuple(sorted(pieces.items()))
