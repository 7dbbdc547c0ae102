"""Lines of the console, taken apart into commands: tuples of a word and what it is told.

`limits` is the pair of the greatest number and of the greatest index of a shelf that a line may tell.
"""

from lettermend.trees import is_path

MOST_TOLD = 999999999


def whole_in(word, least, most):
    """The whole number, from `least` up to `most`, as which the word is written; None."""
    if not 1 <= len(word) <= 9 or not all([sign in "0123456789" for sign in word]):
        return None
    if word[0] == "0" and len(word) > 1:
        return None
    number = int(word)
    return number if least <= number <= most else None


def wholes_in(words, most):
    """The whole numbers up to `most` as which all of the words are written; None."""
    numbers = tuple([whole_in(word, 0, most) for word in words])
    return None if None in numbers else numbers


def path_in(word):
    """The path as which the word is written; None."""
    path = tuple(word.split("/"))
    return path if is_path(path) else None


def put_in(words, limits):
    """The deed that puts a file, told the words behind the first one; None."""
    if not 1 <= len(words) <= 61:
        return None
    path, numbers = path_in(words[0]), wholes_in(words[1:], limits[0])
    return None if path is None or numbers is None else ("put", path, numbers)


def paths_deed_in(words, many):
    """The deed whose first word has so many paths behind it; None."""
    paths = [path_in(word) for word in words[1:]]
    return None if len(paths) != many or None in paths else (words[0], *paths)


def deed_in(words, limits):
    """The deed that the words tell; None."""
    word = words[0] if words else ""
    if word == "put":
        return put_in(words[1:], limits)
    if word in ("make", "remove"):
        return paths_deed_in(words, 1)
    if word in ("copy", "move"):
        return paths_deed_in(words, 2)
    if word in ("join", "leave"):
        return shelf_command_in(words, limits)
    return None


def shelf_command_in(words, limits):
    """The word and the index of a shelf behind it; None."""
    shelf = whole_in(words[1], 0, limits[1]) if len(words) == 2 else None
    return None if shelf is None else (words[0], shelf)


def founding_in(words):
    """("found", WAY, NUMBERS); None."""
    if len(words) != 8 or words[1] not in ("letters", "room"):
        return None
    numbers = wholes_in(words[2:], MOST_TOLD)
    return None if numbers is None else ("found", words[1], numbers)


def cut_in(words):
    """The cut with which the words begin and the words behind it; None."""
    count = whole_in(words[0], 0, MOST_TOLD) if words else None
    if count is None:
        return None
    torn = len(words) > 1 and words[1] == "torn"
    return count, torn, words[2:] if torn else words[1:]


def cut_deed_in(words, limits):
    """("cut", COUNT, TORN, DEED); None."""
    cut = cut_in(words[1:])
    if cut is None:
        return None
    count, torn, rest = cut
    deed = deed_in(rest, limits)
    return None if deed is None else ("cut", count, torn, deed)


def again_in(words, limits):
    """("again", DEED); None."""
    deed = deed_in(words[1:], limits)
    return None if deed is None else ("again", deed)


def read_in(words):
    """("read", PATH), the path () for the whole view; None."""
    if len(words) == 1:
        return "read", ()
    return paths_deed_in(words, 1)


def rot_in(words, limits):
    """("rot", SHELF, CHUNK, NUMBER); None."""
    if len(words) != 4:
        return None
    shelf, chunk = whole_in(words[1], 0, limits[1]), whole_in(words[2], 1, MOST_TOLD)
    number = whole_in(words[3], 1, limits[0])
    return None if None in (shelf, chunk, number) else ("rot", shelf, chunk, number)


def mend_in(words):
    """("mend", COUNT, TORN), COUNT None for all steps; None."""
    if len(words) == 1:
        return "mend", None, False
    cut = cut_in(words[1:])
    return None if cut is None or cut[2] else ("mend", cut[0], cut[1])


def command_in(line, limits):
    """The command that the line tells; None."""
    words = line.split(" ")
    word = words[0]
    if word in ("look", "spare", "help"):
        return (word,) if len(words) == 1 else None
    if word in ("burn", "renew"):
        return shelf_command_in(words, limits)
    if word == "found":
        return founding_in(words)
    if word == "cut":
        return cut_deed_in(words, limits)
    if word == "again":
        return again_in(words, limits)
    if word == "read":
        return read_in(words)
    if word == "rot":
        return rot_in(words, limits)
    if word == "mend":
        return mend_in(words)
    deed = deed_in(words, limits)
    return None if deed is None else ("deed", deed)
