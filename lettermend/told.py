"""Told stores: whether lots of their shelves read and mend, and messages that show where they do not."""

from lettermend.checks import check_ascending, check_shelf, check_within, is_prime, is_table, is_tuple_of
from lettermend.checks import is_tuple_within, is_within
from lettermend.coding import lines_for, pieces_on, room_for, size_for
from lettermend.errors import InvalidShelves, InvalidTold, TooWide
from lettermend.fields import is_noughts, rank_among, row_products, unseen_rows
from lettermend.lots import lots_of
from lettermend.schemes import check_scheme


def height_of(value):
    """How many rows something has that may be a table of 1 to 6 rows; 0 for what is none."""
    return len(value) if is_tuple_within(value, 1, 6) else 0


def are_pieces(prime, size, pieces):
    """Whether these are the tables of 2 to 6 shelves, all with as many rows of `size` numbers."""
    if not is_tuple_within(pieces, 2, 6):
        return False
    room = height_of(pieces[0])
    return room > 0 and all([is_table(prime, piece, room, size) for piece in pieces])


def are_mixes(prime, many, room, mixes):
    """Whether these are, for so many givers, the tables of letters of `room` numbers for each lost shelf."""
    if not is_tuple_of(mixes, many) or not all([is_tuple_of(mix, many) for mix in mixes]):
        return False
    height = height_of(mixes[0][1])
    if height == 0 or not all([is_tuple_of(mixes[giver][giver], 0) for giver in range(many)]):
        return False
    mixed = [mixes[giver][lost] for giver in range(many) for lost in range(many) if giver != lost]
    return all([is_table(prime, table, height, room) for table in mixed])


def is_told(value):
    """Whether the value is a told store."""
    if not is_tuple_of(value, 4):
        return False
    prime, size, pieces, mixes = value
    if not is_prime(prime) or not is_within(size, 1, 12) or not are_pieces(prime, size, pieces):
        return False
    return are_mixes(prime, len(pieces), len(pieces[0]), mixes)


def check_told(told):
    """InvalidTold for what is no told store."""
    if not is_told(told):
        raise InvalidTold(told)


def check_lot(told, shelves, barred):
    """InvalidShelves for what are no ascending shelves other than the one that is barred."""
    if not isinstance(shelves, tuple):
        raise InvalidShelves(None)
    check_ascending(shelves, len(told[2]), barred)


def rows_in(told, lot):
    """The rows of all tables of these shelves."""
    return [row for shelf in lot for row in told[2][shelf]]


def letter_rows(told, lost, givers):
    """The rows with which a message has, as its products, the letters of these givers for the lost shelf."""
    prime, _, pieces, mixes = told
    rows = []
    for giver in givers:
        table = pieces[giver]
        columns = list(zip(*table))
        for mix in mixes[giver][lost]:
            rows.append(row_products(prime, columns, mix))
    return rows


def reads(told, lot):
    """Whether these shelves read."""
    return rank_among(told[0], rows_in(told, lot), told[1]) == told[1]


def hidden(told, lost, givers):
    """A message that these givers' letters tell nothing of, though the lost piece is not noughts; None."""
    prime, size, pieces, _ = told
    # What the letters do not tell are sums of these rows alone, so one of them shows it if any message does.
    for message in unseen_rows(prime, letter_rows(told, lost, givers), size):
        if not is_noughts(row_products(prime, pieces[lost], message)):
            return message
    return None


def all_mend(told, lost, helpers):
    """Whether any so many other shelves mend the lost one."""
    others = [shelf for shelf in range(len(told[2])) if shelf != lost]
    lots = lots_of(len(others), helpers)
    return all([hidden(told, lost, [others[at] for at in lot]) is None for lot in lots])


def all_right(told, parts, helpers):
    """Whether any `parts` shelves read and any `helpers` others mend each one."""
    many = len(told[2])
    if not all([reads(told, lot) for lot in lots_of(many, parts)]):
        return False
    return all([all_mend(told, lost, helpers) for lost in range(many)])


def does_read(told, lot):
    """Whether no message but noughts has noughts as all of its pieces in this lot."""
    check_told(told)
    check_lot(told, lot, None)
    return reads(told, lot)


def blind(told, lot):
    """Any message other than noughts all of whose pieces in this lot are noughts; None."""
    check_told(told)
    check_lot(told, lot, None)
    unseen = unseen_rows(told[0], rows_in(told, lot), told[1])
    return unseen[0] if unseen else None


def does_mend(told, lost, givers):
    """Whether the givers' letters tell the piece of the lost shelf."""
    check_told(told)
    check_shelf(lost, len(told[2]))
    check_lot(told, givers, lost)
    return hidden(told, lost, givers) is None


def unmended(told, lost, givers):
    """Any message all of whose letters are noughts, the piece of the lost shelf not; None."""
    check_told(told)
    check_shelf(lost, len(told[2]))
    check_lot(told, givers, lost)
    return hidden(told, lost, givers)


def is_right(told, parts, helpers):
    """Whether any `parts` shelves read and any `helpers` others mend each one."""
    check_told(told)
    many = len(told[2])
    check_within(parts, 1, many)
    check_within(helpers, 1, many - 1)
    return all_right(told, parts, helpers)


def told_of(scheme):
    """The told store that a scheme of up to six shelves, with messages of up to 12 numbers, is."""
    check_scheme(scheme)
    prime, _, many, _, _ = scheme
    size, room = size_for(scheme), room_for(scheme)
    if many > 6 or room > 6 or size > 12:
        raise TooWide()
    lines = lines_for(scheme)
    # A piece is a sum over the message's numbers, so the messages with one 1 alone tell the columns of its table.
    units = [tuple([1 if place == at else 0 for place in range(size)]) for at in range(size)]
    columns = [pieces_on(scheme, lines, unit) for unit in units]
    pieces = [tuple([tuple([column[shelf][place] for column in columns]) for place in range(room)])
              for shelf in range(many)]
    mixes = [tuple([(line[:room],) if giver != lost else () for lost, line in enumerate(lines)])
             for giver in range(many)]
    return prime, size, tuple(pieces), tuple(mixes)
