"""Messages and lost pieces told although some of what lies there, or is sent, is wrong."""

from lettermend.checks import check_ascending, check_shelf, check_within
from lettermend.codes import check_letters, check_pieces
from lettermend.coding import likely_message, lines_for, piece_in, pieces_on, row_behind
from lettermend.errors import InvalidShelves
from lettermend.fields import row_products
from lettermend.lots import lots_of
from lettermend.schemes import check_scheme


def check_at_least(scheme, shelves, least, barred):
    """InvalidShelves for what are no `least` or more ascending shelves other than the one that is barred."""
    if not isinstance(shelves, tuple) or len(shelves) < least:
        raise InvalidShelves(None)
    check_ascending(shelves, scheme[2], barred)


def unlike_at(shelves, told, found):
    """The shelves at whose index both rows have unlike things."""
    return tuple([shelf for shelf, one, other in zip(shelves, told, found) if one != other])


def message_among(scheme, all_lines, wrong, shelves, pieces):
    """The pair of the message of which at most `wrong` of the pieces differ and of the shelves that do; None.

    Told are the lines of all shelves of the scheme.
    """
    lines = [all_lines[shelf] for shelf in shelves]
    # Of K + 2 `wrong` pieces with at most `wrong` wrong ones some K are right, and these alone tell the message.
    for lot in lots_of(len(shelves), scheme[3]):
        message = likely_message(scheme, [lines[at] for at in lot], [pieces[at] for at in lot])
        unlike = unlike_at(shelves, pieces, pieces_on(scheme, lines, message))
        if len(unlike) <= wrong:
            return message, unlike
    return None


def row_among(scheme, wrong, givers, letters):
    """The pair of the row of which at most `wrong` of the letters differ and of the givers that do; None."""
    all_lines = lines_for(scheme)
    lines = [all_lines[giver] for giver in givers]
    for lot in lots_of(len(givers), scheme[4]):
        row = row_behind(scheme[0], [lines[at] for at in lot], [letters[at] for at in lot])
        unlike = unlike_at(givers, letters, row_products(scheme[0], lines, row))
        if len(unlike) <= wrong:
            return row, unlike
    return None


def read_sure(scheme, wrong, shelves, pieces):
    """The pair of the message of which at most `wrong` pieces differ and of the shelves that do; None."""
    check_scheme(scheme)
    check_within(wrong, 0, 4)
    check_at_least(scheme, shelves, scheme[3] + 2 * wrong, None)
    check_pieces(scheme, shelves, pieces)
    return message_among(scheme, lines_for(scheme), wrong, shelves, pieces)


def mend_sure(scheme, wrong, lost, givers, letters):
    """The pair of the lost piece for which at most `wrong` letters differ and of the givers whose letters do; None."""
    check_scheme(scheme)
    check_within(wrong, 0, 4)
    check_shelf(lost, scheme[2])
    check_at_least(scheme, givers, scheme[4] + 2 * wrong, lost)
    check_letters(scheme, givers, letters)
    found = row_among(scheme, wrong, givers, letters)
    if found is None:
        return None
    row, unlike = found
    return piece_in(scheme, lines_for(scheme)[lost], row), unlike
