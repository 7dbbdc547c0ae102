"""How schemes lay messages on shelves, told of arguments that are right: nothing is checked here.

A scheme is (prime, way, number of shelves, parts that read, helpers that mend). `lines` are always the lines of the
shelves whose pieces are meant, in the same order.
"""

from lettermend.fields import inverse_of, powers_from, row_product, row_products, solved


def points_for(scheme):
    """The points of the shelves; fewer than shelves if the prime has no more."""
    prime, way, many, parts, _ = scheme
    if way == "letters":
        return tuple([shelf + 1 for shelf in range(many)])
    points, told = [], []
    for number in range(1, prime):
        power = powers_from(prime, number, parts)[-1]
        if power not in told:
            points.append(number)
            told.append(power)
        if len(points) == many:
            break
    return tuple(points)


def lines_for(scheme):
    """The lines of all shelves."""
    return [powers_from(scheme[0], point, scheme[4]) for point in points_for(scheme)]


def room_for(scheme):
    """How many numbers a piece has; a short line has as many."""
    return scheme[4] if scheme[1] == "letters" else scheme[3] - 1


def size_for(scheme):
    """How many numbers a message has."""
    _, way, _, parts, helpers = scheme
    if way == "letters":
        return parts * (parts + 1) // 2 + parts * (helpers - parts)
    return parts * (parts - 1)


def alike_table(numbers, many, width):
    """The table of `width` rows alike turned over whose first `many` rows the numbers fill from their own place on."""
    table = [[0] * width for _ in range(width)]
    at = 0
    for row in range(many):
        for place in range(row, width):
            table[row][place] = numbers[at]
            table[place][row] = numbers[at]
            at += 1
    return table


def numbers_in(table, many):
    """The numbers that fill the first `many` rows of a table alike turned over."""
    return [number for row in range(many) for number in table[row][row:]]


def table_for(scheme, message):
    """The table of the message."""
    _, way, _, parts, helpers = scheme
    if way == "letters":
        rows = alike_table(message, parts, helpers)
    else:
        half = len(message) // 2
        rows = alike_table(message[:half], parts - 1, parts - 1) + alike_table(message[half:], parts - 1, parts - 1)
    return tuple([tuple(row) for row in rows])


def pieces_on(scheme, lines, message):
    """The pieces that the message has on the shelves of these lines."""
    table = table_for(scheme, message)
    columns = list(zip(*table))
    return tuple([row_products(scheme[0], columns, line) for line in lines])


def numbers_of_letters(scheme, lines, pieces):
    """The numbers of the one message of the way "letters" that may have these pieces on K shelves."""
    prime, _, _, parts, _ = scheme
    heads = [line[:parts] for line in lines]
    beside = solved(prime, heads, [piece[parts:] for piece in pieces])
    # Below the first K rows stands the part beside, turned over, so its share of the first K places can be taken off.
    rests = []
    for line, piece in zip(lines, pieces):
        share = row_products(prime, beside, line[parts:])
        rests.append([number - other for number, other in zip(piece[:parts], share)])
    first = solved(prime, heads, rests)
    return numbers_in([[*row, *more] for row, more in zip(first, beside)], parts)


def table_between(prime, shorts, between):
    """The table Z with short line times Z times short line `between` any two shelves; K short lines of K - 1."""
    half = len(shorts) - 1
    rows = []
    for shelf in range(half):
        others = [other for other in range(half + 1) if other != shelf]
        rights = [[between[shelf][other]] for other in others]
        column = solved(prime, [shorts[other] for other in others], rights)
        rows.append([row[0] for row in column])
    return solved(prime, shorts[:half], rows)


def numbers_of_room(scheme, lines, pieces):
    """The numbers of the one message of the way "room" that may have these pieces on K shelves."""
    prime, _, _, parts, _ = scheme
    half = parts - 1
    shorts, ends = [line[:half] for line in lines], [line[half] for line in lines]
    crossed = [row_products(prime, shorts, piece) for piece in pieces]
    first, second = [[0] * parts for _ in range(parts)], [[0] * parts for _ in range(parts)]
    # At two shelves both crossed numbers are x + e y with the same x and y, as both tables are alike turned over.
    for shelf in range(parts):
        for other in range(parts):
            if other != shelf:
                by = inverse_of(prime, (ends[shelf] - ends[other]) % prime)
                second[shelf][other] = (crossed[shelf][other] - crossed[other][shelf]) * by % prime
                first[shelf][other] = (crossed[shelf][other] - ends[shelf] * second[shelf][other]) % prime
    upper, lower = table_between(prime, shorts, first), table_between(prime, shorts, second)
    return numbers_in(upper, half) + numbers_in(lower, half)


def likely_message(scheme, lines, pieces):
    """The one message that may have these pieces on K shelves; of "letters" it need not have them."""
    if scheme[1] == "room":
        return tuple(numbers_of_room(scheme, lines, pieces))
    return tuple(numbers_of_letters(scheme, lines, pieces))


def message_on(scheme, lines, pieces):
    """The message that has these pieces on K shelves; None."""
    # Of "letters" K pieces have more numbers than a message, so not all rows are some message's.
    message = likely_message(scheme, lines, pieces)
    return message if pieces_on(scheme, lines, message) == tuple(pieces) else None


def row_behind(prime, lines, letters):
    """The row with which the lines of D givers have these letters as their products."""
    return tuple([row[0] for row in solved(prime, lines, [[number] for number in letters])])


def piece_in(scheme, line, row):
    """The piece of the lost shelf of this line, told by the row behind the letters for it."""
    prime, way, _, parts, _ = scheme
    if way == "letters":
        return tuple(row)
    half = parts - 1
    return tuple([(one + line[half] * other) % prime for one, other in zip(row[:half], row[half:])])


def letter_for(scheme, line, piece):
    """The letter that a piece sends for the lost shelf of this line."""
    return row_product(scheme[0], piece, line[:room_for(scheme)])
