"""META, which tells what lies in a cluster, and how it is packed to a row of numbers."""

from lettermend.checks import check_numbers, check_within, is_ascending, is_tuple_of, is_tuple_within, is_within
from lettermend.checks import is_word
from lettermend.clustererrors import InvalidMeta, InvalidName
from lettermend.placement import is_lot
from lettermend.trees import LETTERS, is_name, is_tree

OUTCOMES = ("done", "no room", "taken", "no such", "within", "too deep", "too many", "too few", "used", "unused")
MOST = 1000000000


class Reader:
    """Reads a row of numbers from the left; once they are no packing it has failed, and tells anything."""

    def __init__(self, numbers):
        self.numbers = numbers
        self.at = 0
        self.failed = False

    def one(self, least, most):
        """The next number, which has to be from `least` up to `most`."""
        if self.at == len(self.numbers) or not least <= self.numbers[self.at] <= most:
            self.failed = True
            return least
        self.at += 1
        return self.numbers[self.at - 1]

    def whole(self, most):
        """The whole number up to `most` that is packed next."""
        digits = self.one(1, 10)
        number = self.one(0 if digits == 1 else 1, 9)
        for _ in range(digits - 1):
            number = number * 10 + self.one(0, 9)
        if number > most:
            self.failed = True
        # A row is read with as many things as this tells, so what was no packing must not tell many.
        return 0 if self.failed else number

    def word(self):
        """The name that is packed next."""
        letters = [LETTERS[self.one(1, 26) - 1] for _ in range(self.one(1, 8))]
        return "".join(letters)

    def wholes(self, many):
        """The row of at most so many whole numbers that is packed next."""
        return tuple([self.whole(MOST) for _ in range(self.whole(many))])

    def mark(self):
        """The mark that is packed next."""
        client = self.whole(7)
        seq = self.whole(MOST)
        return client, seq, OUTCOMES[self.whole(9)]

    def node(self, deep):
        """The node that is packed next, with names up to `deep` deep."""
        if self.one(0, 1) == 1:
            return "room", self.room(deep)
        length = self.whole(60)
        return "file", length, self.wholes(60)

    def room(self, deep):
        """The room that is packed next, with names up to `deep` deep."""
        pairs = []
        for _ in range(self.whole(40 if deep > 0 else 0)):
            name = self.word()
            pairs.append((name, self.node(deep - 1)))
        return tuple(pairs)

    def meta(self):
        """What may be the META that is packed next."""
        used = self.wholes(10)
        marks = tuple([self.mark() for _ in range(self.whole(8))])
        return used, marks, self.room(6)


def is_mark(value):
    """Whether the value is a client's mark."""
    if not is_tuple_of(value, 3) or not is_within(value[0], 0, 7):
        return False
    return is_within(value[1], 1, MOST) and is_word(value[2], OUTCOMES)


def are_marks(value):
    """Whether the value is an ascending tuple of marks of unlike clients."""
    if not is_tuple_within(value, 0, 8) or not all([is_mark(mark) for mark in value]):
        return False
    return is_ascending([mark[0] for mark in value], 0)


def is_meta_file(value):
    """Whether the value is a file's node as META has it."""
    if not is_tuple_of(value, 3) or not is_word(value[0], ("file",)) or not is_within(value[1], 0, 60):
        return False
    chunks = value[2]
    if not is_tuple_within(chunks, min(1, value[1]), value[1]) or not is_ascending(chunks, 1):
        return False
    return not chunks or chunks[-1] <= MOST


def is_meta(value):
    """Whether the value is a META."""
    return is_tuple_of(value, 3) and is_lot(value[0]) and are_marks(value[1]) and is_tree(value[2], is_meta_file)


def whole_numbers(number):
    """The numbers to which a whole number is packed."""
    digits = str(number)
    return [len(digits), *[int(digit) for digit in digits]]


def name_numbers(name):
    """The numbers to which a name is packed."""
    return [len(name), *[LETTERS.index(letter) + 1 for letter in name]]


def row_numbers(wholes):
    """The numbers to which a row of whole numbers is packed."""
    numbers = whole_numbers(len(wholes))
    for number in wholes:
        numbers.extend(whole_numbers(number))
    return numbers


def marks_numbers(marks):
    """The numbers to which marks are packed."""
    numbers = whole_numbers(len(marks))
    for client, seq, outcome in marks:
        for number in (client, seq, OUTCOMES.index(outcome)):
            numbers.extend(whole_numbers(number))
    return numbers


def room_numbers(room):
    """The numbers to which a room of META is packed."""
    numbers = whole_numbers(len(room))
    for name, node in room:
        numbers.extend(name_numbers(name))
        if node[0] == "room":
            numbers.extend([1, *room_numbers(node[1])])
        else:
            numbers.extend([0, *whole_numbers(node[1]), *row_numbers(node[2])])
    return numbers


def numbers_of_meta(meta):
    """The row of numbers to which META is packed."""
    used, marks, tree = meta
    return (*row_numbers(used), *marks_numbers(marks), *room_numbers(tree))


def meta_in(numbers):
    """The META whose packing all of the numbers are; None."""
    reader = Reader(numbers)
    meta = reader.meta()
    if reader.failed or reader.at < len(numbers) or not is_meta(meta):
        return None
    return meta


def packed_whole(number):
    """The row of numbers to which a whole number is packed."""
    check_within(number, 0, MOST)
    return tuple(whole_numbers(number))


def unpacked_whole(numbers):
    """The pair of the whole number with whose packing the numbers begin and of how many numbers this has; None."""
    check_numbers(97, numbers)
    reader = Reader(numbers)
    number = reader.whole(MOST)
    return None if reader.failed else (number, reader.at)


def packed_name(name):
    """The row of numbers to which a name is packed."""
    if not is_name(name):
        raise InvalidName(name)
    return tuple(name_numbers(name))


def unpacked_name(numbers):
    """The pair of the name with whose packing the numbers begin and of how many numbers this has; None."""
    check_numbers(97, numbers)
    reader = Reader(numbers)
    name = reader.word()
    return None if reader.failed else (name, reader.at)


def packed(meta):
    """The row of numbers to which META is packed."""
    if not is_meta(meta):
        raise InvalidMeta(meta)
    return numbers_of_meta(meta)


def unpacked(numbers):
    """The META whose packing the numbers are, all of them; None."""
    check_numbers(97, numbers)
    return meta_in(numbers)
