"""Messages, their tables and pieces, and the letters that mend a lost piece."""

from lettermend.checks import check_ascending, check_shelf, first_no_number, first_no_row, is_row, is_tuple_of
from lettermend.coding import letter_for, lines_for, message_on, piece_in, pieces_on, room_for, row_behind, size_for
from lettermend.coding import table_for
from lettermend.errors import InvalidLetters, InvalidMessage, InvalidPiece, InvalidPieces, InvalidShelves
from lettermend.schemes import check_scheme


def check_message(scheme, message):
    """InvalidMessage for what is no message of the scheme."""
    if not is_tuple_of(message, size_for(scheme)):
        raise InvalidMessage(None)
    index = first_no_number(scheme[0], message)
    if index is not None:
        raise InvalidMessage(index)


def check_pieces(scheme, shelves, pieces):
    """InvalidPieces for what are no pieces, one for each of the shelves."""
    if not is_tuple_of(pieces, len(shelves)):
        raise InvalidPieces(None)
    index = first_no_row(scheme[0], pieces, room_for(scheme))
    if index is not None:
        raise InvalidPieces(index)


def check_letters(scheme, givers, letters):
    """InvalidLetters for what are no letters, one for each of the givers."""
    if not is_tuple_of(letters, len(givers)):
        raise InvalidLetters(None)
    index = first_no_number(scheme[0], letters)
    if index is not None:
        raise InvalidLetters(index)


def check_exact(scheme, shelves, many, barred):
    """InvalidShelves for what are no so many ascending shelves other than the one that is barred."""
    if not is_tuple_of(shelves, many):
        raise InvalidShelves(None)
    check_ascending(shelves, scheme[2], barred)


def table_of(scheme, message):
    """The table of the message."""
    check_scheme(scheme)
    check_message(scheme, message)
    return table_for(scheme, message)


def pieces_of(scheme, message):
    """The pieces of the message on all shelves."""
    check_scheme(scheme)
    check_message(scheme, message)
    return pieces_on(scheme, lines_for(scheme), message)


def read_from(scheme, shelves, pieces):
    """The message that has these pieces on these K shelves; None."""
    check_scheme(scheme)
    check_exact(scheme, shelves, scheme[3], None)
    check_pieces(scheme, shelves, pieces)
    lines = lines_for(scheme)
    return message_on(scheme, [lines[shelf] for shelf in shelves], pieces)


def letter(scheme, piece, lost):
    """The letter that a shelf with this piece sends for the lost one."""
    check_scheme(scheme)
    if not is_row(scheme[0], piece, room_for(scheme)):
        raise InvalidPiece(piece)
    check_shelf(lost, scheme[2])
    return letter_for(scheme, lines_for(scheme)[lost], piece)


def mended(scheme, lost, givers, letters):
    """The piece of the lost shelf, told by the letters of D others."""
    check_scheme(scheme)
    check_shelf(lost, scheme[2])
    check_exact(scheme, givers, scheme[4], lost)
    check_letters(scheme, givers, letters)
    lines = lines_for(scheme)
    row = row_behind(scheme[0], [lines[giver] for giver in givers], letters)
    return piece_in(scheme, lines[lost], row)
