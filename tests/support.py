"""What the tests share: errors as they are told, values of wrong kinds, and slow looks at small stores."""

import itertools
import unittest

from lettermend.errors import StoreError

PRIMES = (11, 13, 17, 19, 23, 29, 31, 37, 41, 43, 47, 53, 59, 61, 67, 71, 73, 79, 83, 89, 97)


class Alike:
    """Is equal to whatever it is compared with."""

    def __eq__(self, other):
        return True

    __hash__ = object.__hash__


class Shy:
    """Lets nobody compare, order, measure, test or iterate it."""

    def refuse(self, *_):
        """Fails."""
        raise AssertionError("this value was asked for more than its kind")

    __eq__ = __ne__ = __lt__ = __le__ = __gt__ = __ge__ = __hash__ = __bool__ = __len__ = __iter__ = refuse
    __getitem__ = __contains__ = __index__ = __int__ = refuse


def nested(deep):
    """A tuple around a tuple, so many of them, around 1."""
    value = 1
    for _ in range(deep):
        value = (value,)
    return value


# Values of other kinds than are wanted: none of them is a whole number, and none a tuple that is let anywhere.
ODD = (True, False, None, "", "11", "letters", b"1", [], [1], [[1]], {}, {1: 2}, {1}, frozenset(), object(),
       Alike(), Shy(), len, (None,), (True,), ("1",), ([1],), ((((1,),),),), range(3), nested(40))


class Told(unittest.TestCase):
    """A test that can say which error is told, and with what."""

    def tells(self, error, told, function, /, *arguments, **named):
        """The call raises just this error; `told` is () for no attribute, else a pair of its name and value."""
        before = repr((arguments, named))
        with self.assertRaises(StoreError) as caught:
            function(*arguments, **named)
        self.assertEqual(repr((arguments, named)), before)
        self.assertIs(caught.exception.__class__, error)
        self.assertEqual(list(vars(caught.exception)), [told[0]] if told else [])
        if told:
            found = getattr(caught.exception, told[0])
            if told[0] == "given":
                self.assertIs(found, told[1])
            else:
                self.assertEqual((found, found.__class__), (told[1], told[1].__class__))

    def given(self, error, value, function, /, *arguments, **named):
        """The call raises this error with the value that was passed as `given`."""
        self.tells(error, ("given", value), function, *arguments, **named)

    def like(self, error, value, function, /, *arguments, **named):
        """The call raises this error with `given` equal to the value, and as it is written."""
        with self.assertRaises(StoreError) as caught:
            function(*arguments, **named)
        self.assertIs(caught.exception.__class__, error)
        self.assertEqual(repr(vars(caught.exception)), repr({"given": value}))

    def index(self, error, value, function, /, *arguments, **named):
        """The call raises this error with this index, or None."""
        self.tells(error, ("index", value), function, *arguments, **named)

    def in_order(self, function, rows):
        """Each row is (NAME, RIGHT, WRONG, ERROR, TOLD) of one argument: the first wrong one is told, however passed.

        TOLD is "given", or the index that is told.
        """
        for at, (name, _, wrong, error, told) in enumerate(rows):
            for later in itertools.product((False, True), repeat=len(rows) - at - 1):
                spoilt = (False,) * at + (True,) + later
                values = [row[2] if bad else row[1] for bad, row in zip(spoilt, rows)]
                expected = ("given", values[at]) if told == "given" else ("index", told)
                with self.subTest(function=function.__name__, argument=name, spoilt=spoilt):
                    self.tells(error, expected, function, *values)
                    self.tells(error, expected, function, **{row[0]: value for row, value in zip(rows, values)})

    def by_name(self, function, /, **named):
        """The call by name and the one by position return the same, twice, and leave what was passed as it was."""
        before = repr(named)
        found = function(*named.values())
        self.assertEqual(function(**named), found)
        self.assertEqual(function(**dict(reversed(list(named.items())))), found)
        self.assertEqual(repr(named), before)
        return found


def sum_by(prime, left, right):
    """The product of two rows, by the words of the document."""
    total = 0
    for at in range(len(left)):
        total += left[at] * right[at]
    return total % prime


def span_of(prime, rows, width):
    """All sums of multiples of the rows: for few rows of small primes alone."""
    found = {(0,) * width}
    for row in rows:
        if row not in found:
            found = {tuple((a + times * b) % prime for a, b in zip(other, row))
                     for other in found for times in range(prime)}
    return found


def slow_rank(prime, rows):
    """How many of the rows are free at most: one of them after the other, freed of those ahead."""
    led = {}
    for row in rows:
        row = list(row)
        for place in range(len(row)):
            if row[place] and place in led:
                times = row[place]
                row = [(a - times * b) % prime for a, b in zip(row, led[place])]
            elif row[place]:
                by = pow(row[place], -1, prime)
                led[place] = [number * by % prime for number in row]
                break
    return len(led)


def all_schemes(primes, most):
    """All tuples with the right kinds of values that are schemes by the words of point 7, up to `most` shelves."""
    for prime in primes:
        for many in range(2, most + 1):
            for parts in range(1, many):
                for helpers in range(parts, many):
                    yield prime, "letters", many, parts, helpers
            for parts in range(2, many):
                helpers = 2 * parts - 2
                unlike = {pow(number, parts - 1, prime) for number in range(1, prime)}
                if helpers <= many - 1 and len(unlike) >= many:
                    yield prime, "room", many, parts, helpers


def rows_like(prime, many, seed):
    """A row of numbers that look mixed, always the same ones for a seed."""
    row, now = [], seed * 7919 + 13
    for at in range(many):
        now = (now * 1103 + 12345 + at) % 1000003
        row.append(now // 7 % prime)
    return tuple(row)
