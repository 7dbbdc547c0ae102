"""The console: a store that is told what to do by lines, and answers each of them with a text."""

from lettermend.checks import is_tuple_of, is_tuple_within
from lettermend.clustererrors import InvalidLine, InvalidLines, InvalidState, Lost, TooFewHomes
from lettermend.clusters import after_steps, contents_told, is_cluster, new_cluster
from lettermend.commands import MOST_TOLD, command_in
from lettermend.errors import Full, InvalidHomes, InvalidScheme, InvalidUsed, InvalidWidth, NotMended
from lettermend.harm import after_burning, after_renewing, after_rot
from lettermend.journals import meant
from lettermend.meanings import mark_in
from lettermend.mending import seen_mended, steps_of_mending
from lettermend.packing import MOST
from lettermend.requests import tried
from lettermend.rooms import is_room, node_in
from lettermend.shelves import piece_held
from lettermend.sights import seen, seen_or_none
from lettermend.surveys import spare_in

HELP = "found make put copy move remove join leave cut again read burn renew rot mend look spare help"


def limits_of(state):
    """The greatest number and the greatest index of a shelf that a line may tell."""
    if state == ():
        return MOST_TOLD, MOST_TOLD
    return state[0][0] - 1, state[0][2] - 1


def answer_to_found(state, way, numbers):
    """The state and the text behind a founding."""
    prime, many, parts, helpers, width, homes = numbers
    # What is no scheme may tell any number of shelves, too many to be written down.
    used = tuple(range(min(many, 10)))
    try:
        cluster = new_cluster((prime, way, many, parts, helpers), width, used, homes)
    except (InvalidScheme, InvalidWidth, InvalidUsed, InvalidHomes, TooFewHomes):
        return state, "no such store"
    return cluster, "founded"


def run_to(state, steps, count, torn, text):
    """The state behind the steps, run to the cut, all for a count of None, and the text, or that it was cut."""
    if count is None:
        return after_steps(state, steps, len(steps), False), text
    return after_steps(state, steps, count, torn), "cut" if count < len(steps) else text


def answer_to_request(state, request, count, torn):
    """The state and the text behind a request to a readable cluster, run to the cut."""
    try:
        sight = seen_mended(state)
    except Full:
        return state, "full"
    except NotMended:
        return state, "not mended"
    reply, steps, _ = tried(state, sight, request)
    return run_to(state, steps, count, torn, reply)


def answer_to_deed(state, deed, count, torn, again):
    """The state and the text behind a deed, run to the cut."""
    sight = seen_or_none(state)
    if sight is None:
        return state, "lost"
    mark = mark_in(sight.meta[2], 0)
    if again and mark is None:
        return state, "nothing yet"
    seq = 0 if mark is None else mark[1]
    if not again and seq == MOST:
        return state, "what?"
    return answer_to_request(state, (0, seq if again else seq + 1, deed), count, torn)


def text_of(node):
    """What a file has, or which names a room has, as a text."""
    if not is_room(node):
        return " ".join([str(number) for number in node[1]]) or "empty"
    return " ".join([name + "/" if is_room(inner) else name for name, inner in node[1]]) or "empty"


def answer_to_read(state, path):
    """The text that tells what stands at the path."""
    try:
        sight = seen_mended(state)
    except Lost:
        return "lost"
    except Full:
        return "full"
    except NotMended:
        return "not mended"
    node = node_in(sight.meaning()[3], path)
    return "no such" if node is None else text_of(node)


def answer_to_burn(state, shelf):
    """The state and the text behind a shelf's burning."""
    return (state if state[2][shelf] is None else after_burning(state, shelf)), "burnt"


def answer_to_renew(state, shelf):
    """The state and the text behind a shelf's renewing."""
    if state[2][shelf] is not None:
        return state, "stands"
    return after_renewing(state, shelf), "renewed"


def answer_to_rot(state, shelf, chunk, more):
    """The state and the text behind rot that adds to the first number of a piece."""
    disk = state[2][shelf]
    if disk is None:
        return state, "burnt"
    if disk[0] != ():
        return state, "not mended"
    piece = piece_held(meant(disk), chunk)
    if piece is None:
        return state, "no piece"
    return after_rot(state, shelf, chunk, ((piece[0] + more) % state[0][0], *piece[1:])), "spoilt"


def answer_to_mend(state, count, torn):
    """The state and the text behind mending, run to the cut."""
    try:
        steps = steps_of_mending(state, seen(state))
    except Lost:
        return state, "lost"
    except Full:
        return state, "full"
    return run_to(state, steps, count, torn, "mended") if steps else (state, "nothing")


def look_of(state):
    """The text that tells each shelf's version and how many chunks it holds."""
    texts = []
    for blocks in contents_told(state):
        if blocks is None:
            texts.append("burnt")
        else:
            version = blocks[0][0] if blocks[0] else 0
            many = len([block for block in blocks[1:] if block])
            texts.append(f"{version}:{many}")
    return " ".join(texts)


def spare_text(state):
    """The text that tells the spare."""
    sight = seen_or_none(state)
    return "lost" if sight is None else str(spare_in(sight))


def answer_to_deeds(state, command):
    """The state and the text behind a command that tells a deed."""
    word = command[0]
    if word == "cut":
        return answer_to_deed(state, command[3], command[1], command[2], False)
    return answer_to_deed(state, command[1], None, False, word == "again")


def answer_of_store(state, command):
    """The state and the text behind a command to a store that there is."""
    word, parts = command[0], command[1:]
    if word in ("deed", "cut", "again"):
        return answer_to_deeds(state, command)
    if word == "burn":
        return answer_to_burn(state, parts[0])
    if word == "renew":
        return answer_to_renew(state, parts[0])
    if word == "rot":
        return answer_to_rot(state, parts[0], parts[1], parts[2])
    if word == "mend":
        return answer_to_mend(state, parts[0], parts[1])
    if word == "read":
        return state, answer_to_read(state, parts[0])
    return state, look_of(state) if word == "look" else spare_text(state)


def answered(state, line):
    """The state and the text behind a line."""
    command = command_in(line, limits_of(state))
    if command is None:
        return state, "what?"
    if command[0] == "help":
        return state, HELP
    if command[0] == "found":
        return answer_to_found(state, command[1], command[2])
    if state == ():
        return state, "no store"
    return answer_of_store(state, command)


def is_line(value):
    """Whether the value is a text of up to 400 signs."""
    return isinstance(value, str) and len(value) <= 400


def answer_line(state, line):
    """The pair of the state behind the line, () for no store, and of the text that answers it."""
    if not is_tuple_of(state, 0) and not is_cluster(state):
        raise InvalidState(state)
    if not is_line(line):
        raise InvalidLine(line)
    return answered(state, line)


def talk(lines):
    """The tuple of all answers to the lines, one after the other, from no store on."""
    if not is_tuple_within(lines, 0, 60):
        raise InvalidLines(None)
    for index, line in enumerate(lines):
        if not is_line(line):
            raise InvalidLines(index)
    state, texts = (), []
    for line in lines:
        state, text = answered(state, line)
        texts.append(text)
    return tuple(texts)
