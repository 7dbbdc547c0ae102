"""Trees of files and rooms: names, paths, views, and the deeds that change them."""

from lettermend.checks import is_tuple_of, is_tuple_within, is_within, is_word
from lettermend.clustererrors import InvalidPath, InvalidView
from lettermend.errors import InvalidDeed
from lettermend.rooms import depth_of, left_by, node_in, outcome_of, paths_in

LETTERS = "abcdefghijklmnopqrstuvwxyz"


def is_name(value):
    """Whether the value is a name."""
    return isinstance(value, str) and 1 <= len(value) <= 8 and all([letter in LETTERS for letter in value])


def is_path(value):
    """Whether the value is a path."""
    return is_tuple_within(value, 1, 6) and all([is_name(name) for name in value])


def are_file_numbers(value):
    """Whether the value may be the numbers of a file."""
    return is_tuple_within(value, 0, 60) and all([is_within(number, 0, 96) for number in value])


def is_file(value):
    """Whether the value is a file's node."""
    return is_tuple_of(value, 2) and is_word(value[0], ("file",)) and are_file_numbers(value[1])


def names_left(value, deep, left, is_right_file):
    """How many of `left` names are left behind those of a room of names up to `deep` deep; None if it is none."""
    if not is_tuple_within(value, 0, left if deep > 0 else 0):
        return None
    left -= len(value)
    ahead = ""
    for pair in value:
        if not is_tuple_of(pair, 2) or not is_name(pair[0]) or pair[0] <= ahead:
            return None
        ahead, node = pair
        if is_right_file(node):
            continue
        if not is_tuple_of(node, 2) or not is_word(node[0], ("room",)):
            return None
        left = names_left(node[1], deep - 1, left, is_right_file)
        if left is None:
            return None
    return left


def is_tree(value, is_right_file):
    """Whether the value is a view, but for its files, which are as `is_right_file` tells."""
    return names_left(value, 6, 40, is_right_file) is not None


def is_view(value):
    """Whether the value is a view."""
    return is_tree(value, is_file)


def is_tree_deed(value):
    """Whether the value is a tree deed."""
    if not is_tuple_within(value, 2, 3) or not is_path(value[1]):
        return False
    if len(value) == 2:
        return is_word(value[0], ("make", "remove"))
    if is_word(value[0], ("put",)):
        return are_file_numbers(value[2])
    return is_word(value[0], ("copy", "move")) and is_path(value[2])


def after_deed(view, deed):
    """The pair of a tree deed's outcome and the view that it leaves."""
    outcome = outcome_of(view, deed)
    return outcome, (left_by(view, deed) if outcome == "done" else view)


def check_view(view):
    """InvalidView for what is no view."""
    if not is_view(view):
        raise InvalidView(view)


def check_path(path):
    """InvalidPath for what is neither a path nor ()."""
    if not is_path(path) and not is_tuple_of(path, 0):
        raise InvalidPath(path)


def node_at(view, path):
    """The node that stands at the path, the whole view as a room for (); None."""
    check_view(view)
    check_path(path)
    return node_in(view, path)


def paths_of(view):
    """The ascending tuple of all paths at which something stands."""
    check_view(view)
    return paths_in(view)


def deepest(view):
    """How many names the longest path has, 0 for an empty view."""
    check_view(view)
    return depth_of(paths_in(view))


def tree_deed(view, deed):
    """The pair of the deed's outcome and the view that it leaves."""
    check_view(view)
    if not is_tree_deed(deed):
        raise InvalidDeed(deed)
    return after_deed(view, deed)
