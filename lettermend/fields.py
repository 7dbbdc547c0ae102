"""Rows and tables of a prime's numbers, told of arguments that are right: nothing is checked here."""


def inverse_of(prime, number):
    """The number with which `number`, other than 0, has the product 1."""
    # Euclid's steps: each rest is, by the prime, `number` times the factor beside it, until the rest is 1.
    ahead, rest = prime, number
    factor_ahead, factor = 0, 1
    while rest != 1:
        times = ahead // rest
        ahead, rest = rest, ahead - times * rest
        factor_ahead, factor = factor, factor_ahead - times * factor
    return factor % prime


def powers_from(prime, number, many):
    """The row of the first powers of the number, one or more of them."""
    row = [1]
    for _ in range(many - 1):
        row.append(row[-1] * number % prime)
    return tuple(row)


def row_product(prime, left, right):
    """The sum of the products of two rows, place by place."""
    return sum([one * other for one, other in zip(left, right)]) % prime


def row_products(prime, rows, right):
    """The products of each of the rows with another one, a row of them."""
    return tuple([sum([one * other for one, other in zip(row, right)]) % prime for row in rows])


def is_noughts(row):
    """Whether all numbers of the row are 0."""
    return not any(row)


def cleared(prime, row, lead, place):
    """The row without its part at `place`, where `lead` has 1."""
    times = row[place]
    if times == 0:
        return row
    return [(number - times * other) % prime for number, other in zip(row, lead)]


def first_with(rows, place):
    """The index of the first row that has another number than 0 at the place; None."""
    for index, row in enumerate(rows):
        if row[place] != 0:
            return index
    return None


def reduced(prime, rows, width):
    """Rows that are freed of one another by their first `width` places, so that only those ask for something there.

    Told are the rows that have a leading 1, the places of these, ascending, and the rows that are 0 at all of the
    first `width` places. No other row has anything at the place of a leading 1.
    """
    led, places, left = [], [], [list(row) for row in rows]
    for place in range(width):
        index = first_with(left, place)
        if index is None:
            continue
        first = left.pop(index)
        by = inverse_of(prime, first[place])
        lead = [number * by % prime for number in first]
        led = [cleared(prime, row, lead, place) for row in led] + [lead]
        left = [cleared(prime, row, lead, place) for row in left]
        places.append(place)
    return led, places, left


def rank_among(prime, rows, width):
    """How many of the rows of `width` numbers are free at most."""
    places = reduced(prime, rows, width)[1]
    return len(places)


def solved(prime, rows, rights):
    """The table with which the rows, as many free ones as places, have the rows `rights` as their products."""
    many = len(rows)
    led = reduced(prime, [[*row, *right] for row, right in zip(rows, rights)], many)[0]
    return [row[many:] for row in led]


def unseen_rows(prime, rows, width):
    """Free rows of `width` numbers of which all that have noughts as products with the rows are sums of multiples."""
    led, places, _ = reduced(prime, rows, width)
    unseen = []
    for free in range(width):
        if free in places:
            continue
        row = [0] * width
        row[free] = 1
        for lead, place in zip(led, places):
            row[place] = -lead[free] % prime
        unseen.append(tuple(row))
    return unseen
