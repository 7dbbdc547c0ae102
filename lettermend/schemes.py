"""Schemes: how many shelves there are, how many of them read, and how many mend."""

from lettermend.checks import check_shelf, is_prime, is_tuple_of, is_within
from lettermend.coding import lines_for, points_for, room_for, size_for
from lettermend.errors import InvalidScheme


def is_scheme(value):
    """Whether the value is a scheme."""
    if not is_tuple_of(value, 5):
        return False
    prime, way, many, parts, helpers = value
    if not is_prime(prime) or not isinstance(way, str) or not is_within(many, 2, 10):
        return False
    if way == "letters":
        return is_within(parts, 1, many - 1) and is_within(helpers, parts, many - 1)
    if way != "room" or not is_within(parts, 2, many - 1) or not is_within(helpers, 2, many - 1):
        return False
    return helpers == 2 * parts - 2 and len(points_for(value)) == many


def check_scheme(scheme):
    """InvalidScheme for what is no scheme."""
    if not is_scheme(scheme):
        raise InvalidScheme(scheme)


def points_of(scheme):
    """The points of all shelves."""
    check_scheme(scheme)
    return points_for(scheme)


def room_of(scheme):
    """How many numbers a piece has."""
    check_scheme(scheme)
    return room_for(scheme)


def size_of(scheme):
    """How many numbers a message has."""
    check_scheme(scheme)
    return size_for(scheme)


def line_of(scheme, shelf):
    """The line of the shelf."""
    check_scheme(scheme)
    check_shelf(shelf, scheme[2])
    return lines_for(scheme)[shelf]


def short_line(scheme, shelf):
    """The short line of the shelf."""
    check_scheme(scheme)
    check_shelf(shelf, scheme[2])
    return lines_for(scheme)[shelf][:room_for(scheme)]
