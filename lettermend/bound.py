"""How many numbers any store may hold at most, and with how much room and how many letters at least."""

from lettermend.checks import check_within


def check_helpers(parts, helpers):
    """InvalidNumber for parts that are none, then for helpers that are none or below them."""
    check_within(parts, 1, 12)
    check_within(helpers, parts, 12)


def numbers_held(parts, helpers, room, letters):
    """The sum that no store with so much room and so many letters exceeds."""
    return sum([min(room, (helpers - ahead) * letters) for ahead in range(parts)])


def most_numbers(parts, helpers, room, letters):
    """The greatest size of a store of which any `parts` shelves read and any `helpers` mend."""
    check_helpers(parts, helpers)
    check_within(room, 1, 1000)
    check_within(letters, 1, 1000)
    return numbers_held(parts, helpers, room, letters)


def least_room(size, parts, helpers, letters):
    """The least room with which the greatest size is at least `size`; None."""
    check_within(size, 1, 1000)
    check_helpers(parts, helpers)
    check_within(letters, 1, 1000)
    # A room of `size` is always enough if any is: more than one shelf alone must hold brings nothing.
    for room in range(1, size + 1):
        if numbers_held(parts, helpers, room, letters) >= size:
            return room
    return None


def least_letters(size, parts, helpers, room):
    """The least number of letters with which the greatest size is at least `size`; None."""
    check_within(size, 1, 1000)
    check_helpers(parts, helpers)
    check_within(room, 1, 1000)
    for letters in range(1, size + 1):
        if numbers_held(parts, helpers, room, letters) >= size:
            return letters
    return None
