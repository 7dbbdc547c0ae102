"""What many files ask of arguments: whole numbers, tuples, words, cuts, rows, tables and indexes of shelves."""

from lettermend.clustererrors import InvalidNumbers
from lettermend.errors import InvalidChunk, InvalidCount, InvalidNumber, InvalidShelf, InvalidShelves, InvalidTorn

PRIMES = (11, 13, 17, 19, 23, 29, 31, 37, 41, 43, 47, 53, 59, 61, 67, 71, 73, 79, 83, 89, 97)


def is_whole(value):
    """Whether the value is a whole number: True and False are none."""
    return isinstance(value, int) and not isinstance(value, bool)


def is_within(value, least, most):
    """Whether the value is a whole number from `least` up to `most`."""
    return is_whole(value) and least <= value <= most


def is_from(value, least):
    """Whether the value is a whole number from `least` on."""
    return is_whole(value) and value >= least


def is_tuple_of(value, many):
    """Whether the value is a tuple of so many elements, whatever they are."""
    return isinstance(value, tuple) and len(value) == many


def is_tuple_within(value, least, most):
    """Whether the value is a tuple of `least` up to `most` elements, whatever they are."""
    return isinstance(value, tuple) and least <= len(value) <= most


def is_word(value, words):
    """Whether the value is one of the words, a tuple of strings."""
    return isinstance(value, str) and value in words


def is_same(value, told):
    """Whether the value is just what is told, of tuples, texts, whole numbers and None; nothing like it is let."""
    if isinstance(told, tuple):
        return is_tuple_of(value, len(told)) and all([is_same(one, other) for one, other in zip(value, told)])
    if isinstance(told, str):
        return is_word(value, (told,))
    if told is None:
        return value is None
    return is_whole(value) and value == told


def is_ascending(values, least):
    """Whether the values are whole numbers from `least` on, each greater than the one before it."""
    ahead = least - 1
    for value in values:
        if not is_from(value, ahead + 1):
            return False
        ahead = value
    return True


def is_torn(value):
    """Whether the value tells if a write is torn: True or False."""
    return value is True or value is False


def is_cut(count, torn):
    """Whether these are a cut."""
    return is_from(count, 0) and is_torn(torn)


def is_prime(value):
    """Whether the value is one of the primes that are let."""
    return is_whole(value) and value in PRIMES


def is_number(prime, value):
    """Whether the value is a number of the prime."""
    return is_within(value, 0, prime - 1)


def first_no_number(prime, values):
    """The index of the first of the values that is no number of the prime; None."""
    for index, value in enumerate(values):
        if not is_number(prime, value):
            return index
    return None


def is_row(prime, value, many):
    """Whether the value is a row of so many numbers of the prime."""
    return is_tuple_of(value, many) and first_no_number(prime, value) is None


def first_no_row(prime, values, many):
    """The index of the first of the values that is no row of so many numbers of the prime; None."""
    for index, value in enumerate(values):
        if not is_row(prime, value, many):
            return index
    return None


def is_table(prime, value, many, length):
    """Whether the value is a table of so many rows of `length` numbers of the prime."""
    return is_tuple_of(value, many) and first_no_row(prime, value, length) is None


def check_within(value, least, most):
    """InvalidNumber for what is no whole number from `least` up to `most`."""
    if not is_within(value, least, most):
        raise InvalidNumber(value)


def check_shelf(shelf, many):
    """InvalidShelf for what is no index of one of so many shelves."""
    if not is_within(shelf, 0, many - 1):
        raise InvalidShelf(shelf)


def first_no_shelf(shelves, many, barred):
    """The index of the first one that is no index of one of so many shelves, `barred`, or not above the one ahead."""
    ahead = -1
    for index, shelf in enumerate(shelves):
        if not is_within(shelf, ahead + 1, many - 1) or shelf == barred:
            return index
        ahead = shelf
    return None


def check_ascending(shelves, many, barred):
    """InvalidShelves for the first element of a tuple that first_no_shelf tells."""
    index = first_no_shelf(shelves, many, barred)
    if index is not None:
        raise InvalidShelves(index)


def check_cut(count, torn):
    """InvalidCount and InvalidTorn for what is no cut."""
    if not is_from(count, 0):
        raise InvalidCount(count)
    if not is_torn(torn):
        raise InvalidTorn(torn)


def check_chunk(chunk):
    """InvalidChunk for what is no whole number from 1 on."""
    if not is_from(chunk, 1):
        raise InvalidChunk(chunk)


def check_numbers(prime, numbers):
    """InvalidNumbers for what is no tuple of at most 30000 numbers of the prime."""
    if not is_tuple_within(numbers, 0, 30000):
        raise InvalidNumbers(None)
    index = first_no_number(prime, numbers)
    if index is not None:
        raise InvalidNumbers(index)
