"""Rooms of names and nodes, whatever their files hold: what stands there, and deeds that were looked at already."""


def node_named(room, name):
    """The node of this name in the room; None."""
    for told, node in room:
        if told == name:
            return node
    return None


def is_room(node):
    """Whether there is a node and it is a room."""
    return node is not None and node[0] == "room"


def node_in(room, path):
    """The node that stands at the path, the room itself for (); None."""
    node = ("room", room)
    for name in path:
        if not is_room(node):
            return None
        node = node_named(node[1], name)
    return node


def paths_in(room):
    """The ascending tuple of all paths at which something stands in the room."""
    paths = []
    for name, node in room:
        paths.append((name,))
        if is_room(node):
            paths.extend([(name, *path) for path in paths_in(node[1])])
    return tuple(paths)


def depth_of(paths):
    """How many names the longest of the paths has, 0 for none."""
    return max([len(path) for path in paths], default=0)


def room_with(room, path, node):
    """The room with this node at the path, whose parent is a room."""
    name, rest = path[0], path[1:]
    if rest:
        node = ("room", room_with(node_named(room, name)[1], rest, node))
    others = [pair for pair in room if pair[0] != name]
    return tuple(sorted([*others, (name, node)]))


def room_without(room, path):
    """The room without what stands at the path."""
    name, rest = path[0], path[1:]
    if rest:
        return room_with(room, (name,), ("room", room_without(node_named(room, name)[1], rest)))
    return tuple([pair for pair in room if pair[0] != name])


def outcome_at(room, path):
    """Why nothing new can stand at the path: its parent is no room, or something stands there; None."""
    if not is_room(node_in(room, path[:-1])):
        return "no room"
    return None if node_in(room, path) is None else "taken"


def outcome_of_make(room, path):
    """The outcome of making a room at the path."""
    barred = outcome_at(room, path)
    if barred is not None:
        return barred
    return "too many" if len(paths_in(room)) == 40 else "done"


def outcome_of_put(room, path):
    """The outcome of putting a file at the path: one that stands there is no hindrance."""
    node = node_in(room, path)
    return outcome_of_make(room, path) if node is None or is_room(node) else "done"


def outcome_to(room, path, to):
    """The outcome of moving what stands at the path."""
    node = node_in(room, path)
    if node is None:
        return "no such"
    if to[:len(path)] == path:
        return "within"
    barred = outcome_at(room, to)
    if barred is not None:
        return barred
    deep = depth_of(paths_in(node[1])) if is_room(node) else 0
    return "too deep" if len(to) + deep > 6 else "done"


def outcome_of_copy(room, path, to):
    """The outcome of copying what stands at the path."""
    outcome = outcome_to(room, path, to)
    if outcome != "done":
        return outcome
    paths = paths_in(room)
    copied = [other for other in paths if other[:len(path)] == path]
    return "too many" if len(paths) + len(copied) > 40 else "done"


def outcome_of(room, deed):
    """The outcome of a tree deed."""
    word, path = deed[0], deed[1]
    if word == "make":
        return outcome_of_make(room, path)
    if word == "put":
        return outcome_of_put(room, path)
    if word == "copy":
        return outcome_of_copy(room, path, deed[2])
    if word == "move":
        return outcome_to(room, path, deed[2])
    return "no such" if node_in(room, path) is None else "done"


def left_by(room, deed):
    """The room that a tree deed leaves whose outcome is "done"."""
    word, path = deed[0], deed[1]
    if word == "make":
        return room_with(room, path, ("room", ()))
    if word == "put":
        return room_with(room, path, ("file", deed[2]))
    if word == "remove":
        return room_without(room, path)
    copied = room_with(room, deed[2], node_in(room, path))
    return copied if word == "copy" else room_without(copied, path)
