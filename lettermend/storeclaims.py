"""Claims of told stores, schemes, disks, placement and packing, and whether a paper shows them."""

from lettermend.bound import numbers_held
from lettermend.checks import first_no_shelf, is_cut, is_from, is_row, is_same, is_tuple_of, is_within
from lettermend.coding import lines_for, pieces_on, size_for
from lettermend.disks import after_writes
from lettermend.fields import is_noughts, row_products
from lettermend.journals import is_batch, is_quiet, meant, steps_for
from lettermend.packing import is_meta, numbers_of_meta
from lettermend.placement import is_lot, placed_among, score_on
from lettermend.schemes import is_scheme
from lettermend.told import all_right, hidden, is_told, letter_rows, reads, rows_in


def is_lot_in(told, value, barred):
    """Whether the value is an ascending tuple of shelves of the told store, () let, without the one that is barred."""
    return isinstance(value, tuple) and first_no_shelf(value, len(told[2]), barred) is None


def are_mending(told, lost, givers):
    """Whether these are a told store, a shelf that is lost, and givers for it."""
    return is_told(told) and is_within(lost, 0, len(told[2]) - 1) and is_lot_in(told, givers, lost)


def claims_reads(paper, told, lot):
    """The lot reads."""
    return is_tuple_of(paper, 0) and is_told(told) and is_lot_in(told, lot, None) and reads(told, lot)


def claims_blind(paper, told, lot):
    """The lot does not read, as the paper is a message, other than noughts, of which it sees noughts alone."""
    if not is_told(told) or not is_lot_in(told, lot, None) or not is_row(told[0], paper, told[1]):
        return False
    return not is_noughts(paper) and is_noughts(row_products(told[0], rows_in(told, lot), paper))


def claims_mends(paper, told, lost, givers):
    """The givers mend the lost shelf."""
    return is_tuple_of(paper, 0) and are_mending(told, lost, givers) and hidden(told, lost, givers) is None


def claims_mends_not(paper, told, lost, givers):
    """They do not, as the paper is a message of which the letters tell nothing, the lost piece something."""
    if not are_mending(told, lost, givers) or not is_row(told[0], paper, told[1]):
        return False
    letters = row_products(told[0], letter_rows(told, lost, givers), paper)
    return is_noughts(letters) and not is_noughts(row_products(told[0], told[2][lost], paper))


def claims_right(paper, told, parts, helpers):
    """Any so many shelves read, and any so many others mend each one."""
    if not is_tuple_of(paper, 0) or not is_told(told):
        return False
    many = len(told[2])
    return is_within(parts, 1, many) and is_within(helpers, 1, many - 1) and all_right(told, parts, helpers)


def claims_too_much(paper, size, parts, helpers, room, letters):
    """The size is above what any store with such room and letters holds."""
    if not is_tuple_of(paper, 0) or not is_within(size, 1, 1000):
        return False
    if not is_within(parts, 1, 12) or not is_within(helpers, parts, 12):
        return False
    if not is_within(room, 1, 1000) or not is_within(letters, 1, 1000):
        return False
    return size > numbers_held(parts, helpers, room, letters)


def claims_message(paper, scheme, message, shelves, pieces):
    """These are the message's pieces on these shelves."""
    if not is_tuple_of(paper, 0) or not is_scheme(scheme) or not is_row(scheme[0], message, size_for(scheme)):
        return False
    if not isinstance(shelves, tuple) or len(shelves) == 0 or first_no_shelf(shelves, scheme[2], None) is not None:
        return False
    lines = lines_for(scheme)
    return is_same(pieces, pieces_on(scheme, [lines[shelf] for shelf in shelves], message))


def claims_cut(paper, disk, batch, count, torn, contents):
    """These are the contents of the quiet disk after the batch's steps, run to the cut."""
    if not is_tuple_of(paper, 0) or not is_quiet(disk) or not is_batch(batch, len(disk)) or not is_cut(count, torn):
        return False
    return is_same(contents, meant(after_writes(disk, steps_for(batch), count, torn)))


def are_lot_and_width(used, width):
    """Whether these are a lot in use and a width for it."""
    return is_lot(used) and is_within(width, 1, len(used))


def claims_placed(paper, chunk, used, width, shelves):
    """The chunk is placed on these shelves, as the scores that the paper tells show."""
    if not is_from(chunk, 1) or not are_lot_and_width(used, width):
        return False
    scores = tuple([score_on(chunk, shelf) for shelf in used])
    return is_same(paper, scores) and is_same(shelves, placed_among(chunk, used, width))


def claims_load(paper, used, width, loads):
    """These are the loads of all shelves of the lot."""
    if not is_tuple_of(paper, 0) or not are_lot_and_width(used, width):
        return False
    lots = [placed_among(chunk, used, width) for chunk in range(1, 1010)]
    return is_same(loads, tuple([len([lot for lot in lots if shelf in lot]) for shelf in used]))


def claims_stays(paper, used, other, width):
    """The other lot has all shelves of the first one."""
    if not is_tuple_of(paper, 0) or not are_lot_and_width(used, width) or not are_lot_and_width(other, width):
        return False
    return all([shelf in other for shelf in used])


def claims_packs(paper, meta, numbers):
    """META is packed to these numbers."""
    return is_tuple_of(paper, 0) and is_meta(meta) and is_same(numbers, numbers_of_meta(meta))


MANY_PARTS = {"reads": 2, "blind": 2, "mends": 3, "mends not": 3, "right": 3, "too much": 5, "message": 4, "cut": 5,
              "placed": 4, "load": 3, "stays": 3, "packs": 2}
CLAIMS = {"reads": claims_reads, "blind": claims_blind, "mends": claims_mends, "mends not": claims_mends_not,
          "right": claims_right, "too much": claims_too_much, "message": claims_message, "cut": claims_cut,
          "placed": claims_placed, "load": claims_load, "stays": claims_stays, "packs": claims_packs}


def is_shown_of_stores(word, parts, paper):
    """Whether the paper shows the claim of this word and these parts; False for a word of no such claim."""
    if word not in CLAIMS or len(parts) != MANY_PARTS[word]:
        return False
    claims = CLAIMS[word]
    return claims(paper, *parts)
