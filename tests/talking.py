"""The console by the words of point 61: lines as patterns, answers of what stands ahead of the console."""

import re

from lettermend.clustererrors import Lost
from lettermend.clusters import cut_steps, done_steps, new_cluster
from lettermend.errors import Full, NotHeld, NotMended, StoreError
from lettermend.harm import burnt, renewed, rotten
from lettermend.meanings import mark_of
from lettermend.mending import steps_to_mend
from lettermend.reading import meaning
from lettermend.requests import read, request_steps
from lettermend.shelves import held, piece_of, shelf_root
from lettermend.surveys import spare

N, P = r"(?:0|[1-9][0-9]{0,8})", r"[a-z]{1,8}(?:/[a-z]{1,8}){0,5}"
DEED = (rf"(?:make {P}|remove {P}|copy {P} {P}|move {P} {P}|put {P}(?: {N}){{0,60}}|join {N}|leave {N})")
LINES = {"found": rf"found (letters|room)((?: {N}){{6}})", "deed": rf"({DEED})", "cut": rf"cut ({N})( torn)? ({DEED})",
         "again": rf"again ({DEED})", "read": rf"read(?: ({P}))?", "burn": rf"burn ({N})", "renew": rf"renew ({N})",
         "rot": rf"rot ({N}) ({N}) ({N})", "mend": rf"mend(?: ({N})( torn)?)?", "look": "look", "spare": "spare",
         "help": "help"}
HELP = "found make put copy move remove join leave cut again read burn renew rot mend look spare help"


def deed_of(text):
    """The deed that a text of the right form tells."""
    word, *rest = text.split(" ")
    if word in ("join", "leave"):
        return word, int(rest[0])
    if word == "put":
        return word, tuple(rest[0].split("/")), tuple(int(number) for number in rest[1:])
    return (word,) + tuple(tuple(path.split("/")) for path in rest)


def is_let(state, deed):
    """Whether the numbers and shelves of a deed are those of the store."""
    if deed[0] == "put":
        return all(number < state[0][0] for number in deed[2])
    return deed[0] not in ("join", "leave") or deed[1] < state[0][2]


def slow_deed(state, deed, seq, count, torn):
    """The state and the text behind a deed of a store that has a meaning."""
    try:
        reply, steps = request_steps(state, (0, seq, deed))
    except Full:
        return state, "full"
    except NotMended:
        return state, "not mended"
    if count is None or count >= len(steps):
        return done_steps(state, steps), reply
    return cut_steps(state, steps, count, torn), "cut"


def slow_deeds(state, kind, found):
    """The state and the text behind a line that tells a deed."""
    deed = deed_of(found.group(3 if kind == "cut" else 1))
    if state == ():
        return state, "no store"
    if not is_let(state, deed):
        return state, "what?"
    if meaning(state) is None:
        return state, "lost"
    mark = mark_of(meaning(state), 0)
    if kind == "again":
        return slow_deed(state, deed, mark[1], None, False) if mark else (state, "nothing yet")
    if mark and mark[1] == 10 ** 9:
        return state, "what?"
    count = int(found.group(1)) if kind == "cut" else None
    return slow_deed(state, deed, mark[1] + 1 if mark else 1, count, kind == "cut" and found.group(2) is not None)


def slow_read(state, path):
    """The text that answers a read."""
    try:
        node = read(state, path)
    except Lost:
        return "lost"
    except Full:
        return "full"
    except NotMended:
        return "not mended"
    if node is None:
        return "no such"
    words = [str(one) if node[0] == "file" else one[0] + ("/" if one[1][0] == "room" else "") for one in node[1]]
    return " ".join(words) if words else "empty"


def slow_mend(state, count, torn):
    """The state and the text behind mending."""
    try:
        steps = steps_to_mend(state)
    except Lost:
        return state, "lost"
    except Full:
        return state, "full"
    if not steps:
        return state, "nothing"
    if count is None or count >= len(steps):
        return done_steps(state, steps), "mended"
    return cut_steps(state, steps, count, torn), "cut"


def slow_rot(state, shelf, chunk, more):
    """The state and the text behind rot."""
    if state[2][shelf] is None:
        return state, "burnt"
    piece = piece_of(state[2][shelf], chunk) or (0,) * 9
    wrong = ((piece[0] + more) % state[0][0],) + piece[1:]
    try:
        return rotten(state, shelf, chunk, wrong if piece_of(state[2][shelf], chunk) else room_row(state)), "spoilt"
    except NotMended:
        return state, "not mended"
    except NotHeld:
        return state, "no piece"


def room_row(state):
    """Any row of as many numbers as the room."""
    return (0,) * (state[0][4] if state[0][1] == "letters" else state[0][3] - 1)


def slow_look(state):
    """The text that answers a look."""
    words = []
    for disk in state[2]:
        words.append("burnt" if disk is None else f"{(shelf_root(disk) or (0,))[0]}:{len(held(disk))}")
    return " ".join(words)


def slow_found(state, found):
    """The state and the text behind a founding."""
    prime, many, parts, helpers, width, homes = (int(number) for number in found.group(2).split())
    try:
        if many > 10:
            return state, "no such store"
        scheme = prime, found.group(1), many, parts, helpers
        return new_cluster(scheme, width, tuple(range(many)), homes), "founded"
    except StoreError:
        return state, "no such store"


def slow_shelf(state, kind, found):
    """The state and the text behind burning, renewing or rot."""
    numbers = [int(number) for number in found.groups()]
    if kind == "rot" and (numbers[1] == 0 or numbers[2] == 0):
        return state, "what?"
    if state == ():
        return state, "no store"
    if numbers[0] >= state[0][2] or kind == "rot" and numbers[2] >= state[0][0]:
        return state, "what?"
    if kind == "rot":
        return slow_rot(state, *numbers)
    up = state[2][numbers[0]] is not None
    if kind == "burn":
        return (burnt(state, numbers[0]) if up else state), "burnt"
    return (state, "stands") if up else (renewed(state, numbers[0]), "renewed")


def slow_line(state, line):
    """The state and the text behind a line."""
    kinds = [kind for kind, pattern in LINES.items() if re.fullmatch(pattern, line)]
    if not kinds:
        return state, "what?"
    kind, = kinds
    found = re.fullmatch(LINES[kind], line)
    if kind == "help":
        return state, HELP
    if kind == "found":
        return slow_found(state, found)
    if kind in ("deed", "cut", "again"):
        return slow_deeds(state, kind, found)
    if kind in ("burn", "renew", "rot"):
        return slow_shelf(state, kind, found)
    if state == ():
        return state, "no store"
    if kind == "read":
        return state, slow_read(state, tuple(found.group(1).split("/")) if found.group(1) else ())
    if kind == "mend":
        return slow_mend(state, int(found.group(1)) if found.group(1) else None, found.group(2) is not None)
    if kind == "look":
        return state, slow_look(state)
    return state, str(spare(state)) if meaning(state) else "lost"
