"""The claims of point 63 by its words: which papers are right for them, told of what stands ahead of the checker."""

from lettermend.bound import most_numbers
from lettermend.clusters import cut_steps, standing
from lettermend.codes import letter, pieces_of
from lettermend.disks import run_writes
from lettermend.errors import StoreError
from lettermend.harm import burnt
from lettermend.journals import batch_steps, contents, is_quiet
from lettermend.meanings import answer, answers
from lettermend.mending import is_mended, mended_cluster, steps_to_mend
from lettermend.packing import packed
from lettermend.placement import load, placed, score
from lettermend.post import after_events, answers_of, new_post
from lettermend.reading import chunk_message, holders, meaning, named, piece_for, right_holders, root_of
from lettermend.records import record
from lettermend.requests import request_steps
from lettermend.shelves import shelf_root
from lettermend.surveys import spare, survey
from lettermend.told import does_mend, does_read, is_right
from tests.support import sum_by


def same(value, told):
    """Whether the value is just this: nothing that is only equal to it."""
    return repr(value) == repr(told)


def is_row_of(told, value):
    """Whether the value is a message of the told store."""
    return (isinstance(value, tuple) and len(value) == told[1]
            and all(number.__class__ is int and 0 <= number < told[0] for number in value))


def is_blind(told, lot, paper):
    """Whether the paper is a message as `blind` may tell."""
    rows = [row for shelf in lot for row in told[2][shelf]]
    return is_row_of(told, paper) and any(paper) and not any(sum_by(told[0], row, paper) for row in rows)


def is_unmended(told, lost, givers, paper):
    """Whether the paper is a message as `unmended` may tell."""
    if not is_row_of(told, paper):
        return False
    for giver in givers:
        piece = [sum_by(told[0], row, paper) for row in told[2][giver]]
        if any(sum_by(told[0], mix, piece) for mix in told[3][giver][lost]):
            return False
    return any(sum_by(told[0], row, paper) for row in told[2][lost])


def store_claim(word, parts, paper):
    """Whether the paper is right for a claim of told stores, bounds and messages."""
    if word == "reads":
        return does_read(*parts) and same(paper, ())
    if word == "blind":
        return not does_read(*parts) and is_blind(*parts, paper)
    if word == "mends":
        return does_mend(*parts) and same(paper, ())
    if word == "mends not":
        return not does_mend(*parts) and is_unmended(*parts, paper)
    if word == "right":
        return is_right(*parts) and same(paper, ())
    if word == "too much":
        size, many, helpers, room, letters = parts
        most_numbers(1, 1, size, 1)
        return size > most_numbers(many, helpers, room, letters) and same(paper, ())
    scheme, message, shelves, pieces = parts
    told = pieces_of(scheme, message)
    assert isinstance(shelves, tuple) and shelves and all(shelf.__class__ is int for shelf in shelves)
    assert list(shelves) == sorted(set(shelves)) and 0 <= shelves[0] and shelves[-1] < scheme[2]
    return same(pieces, tuple(told[shelf] for shelf in shelves)) and same(paper, ())


def lying_claim(word, parts, paper):
    """Whether the paper is right for a claim of disks, placement and packing."""
    if word == "cut":
        disk, batch, count, torn, told = parts
        assert is_quiet(disk)
        steps = batch_steps(disk, batch)
        return same(told, contents(run_writes(disk, steps, count, torn))) and same(paper, ())
    if word == "placed":
        chunk, used, width, shelves = parts
        scores = tuple(score(chunk, shelf) for shelf in used)
        return same(shelves, placed(chunk, used, width)) and same(paper, scores)
    if word == "load":
        used, width, loads = parts
        placed(1, used, width)
        return same(loads, tuple(load(used, width, shelf) for shelf in used)) and same(paper, ())
    if word == "stays":
        used, other, width = parts
        placed(1, used, width), placed(1, other, width)
        return set(used) <= set(other) and same(paper, ())
    meta, numbers = parts
    return same(numbers, packed(meta)) and same(paper, ())


def is_losing(cluster, shelves, paper):
    """Whether the paper is right for the claim that these shelves lose something when they burn."""
    assert isinstance(shelves, tuple) and meaning(cluster) is not None
    assert all(shelf.__class__ is int and shelf in standing(cluster) for shelf in shelves)
    assert list(shelves) == sorted(set(shelves))
    left = cluster
    for shelf in shelves:
        left = burnt(left, shelf)
    roots = [shelf for shelf in standing(left) if shelf_root(left[2][shelf]) == root_of(cluster)]
    if same(paper, ()):
        return not roots
    for chunk, right, wrong, _, _ in survey(cluster):
        if same(paper, (chunk,)):
            left = [len(set(lot) - set(shelves)) for lot in (right, wrong)]
            return left[0] < cluster[0][3] + left[1]
    return False


def is_giving(cluster, chunk, shelf, givers, letters, paper):
    """Whether the paper is right for the claim that these givers give these letters."""
    assert meaning(cluster) is not None and chunk.__class__ is int and chunk in named(cluster)
    assert shelf.__class__ is int and 0 <= shelf < cluster[0][2] and isinstance(givers, tuple)
    assert all(giver.__class__ is int and giver != shelf for giver in givers) and len(givers) == cluster[0][4]
    assert list(givers) == sorted(set(givers)) and set(givers) <= set(right_holders(cluster, chunk))
    told = tuple(letter(cluster[0], piece_for(cluster, chunk, giver), shelf) for giver in givers)
    return same(letters, told) and same(paper, piece_for(cluster, chunk, shelf))


def is_once(meant, width, requests, indexes, paper):
    """Whether the paper is right for the claim that just these requests are tried."""
    answers(meant, width, requests)
    found = []
    for index, request in enumerate(requests):
        behind = answer(meant, width, request)[1]
        if behind[0] > meant[0]:
            found.append(index)
        meant = behind
    return same(indexes, tuple(found)) and same(paper, ())


def is_deciding(cluster, request, count, paper):
    """Whether the paper is right for the claim that the request counts from so many steps on."""
    steps, before = request_steps(cluster, request)[1], meaning(cluster)
    assert steps and count.__class__ is int and 0 < count <= len(steps)
    around = [meaning(cut_steps(cluster, steps, at, torn)) == before for at in (count - 1, count) for torn in (False, True)]
    return around == [True, True, False, False] and same(paper, ())


def cluster_claim(word, parts, paper):
    """Whether the paper is right for a claim of clusters."""
    cluster = parts[0]
    if word == "means":
        pairs = tuple((chunk, chunk_message(cluster, chunk)) for chunk in named(cluster))
        return meaning(cluster) is not None and same(parts[1], meaning(cluster)) and same(paper, pairs)
    if word == "lost":
        return len(holders(*parts)) < cluster[0][3] and same(paper, ())
    if word == "decides":
        return is_deciding(*parts, paper)
    if word == "once":
        return is_once(*parts, paper)
    if word == "spare":
        assert parts[1].__class__ is int and 0 <= parts[1] <= len(standing(cluster))
        return parts[1] <= spare(cluster) and same(paper, ())
    if word == "loses":
        return is_losing(*parts, paper)
    if word == "ends":
        return same(parts[1], mended_cluster(cluster)) and same(paper, ())
    if word == "gives":
        return is_giving(*parts, paper)
    if word == "answers":
        return same(parts[3], answers_of(after_events(new_post(*parts[:2]), parts[2]))) and same(paper, ())
    if word == "order":
        return same(paper, record(new_post(*parts[:2]), parts[2]))
    if word == "mended":
        return is_mended(cluster) and same(paper, ())
    if word == "unmended":
        return same(paper, steps_to_mend(cluster)[0])
    return same(parts[2], request_steps(*parts[:2])[0]) and same(paper, ())


MANY = {"reads": 2, "blind": 2, "mends": 3, "mends not": 3, "right": 3, "too much": 5, "message": 4, "cut": 5, "placed": 4,
        "load": 3, "stays": 3, "packs": 2, "means": 2, "lost": 2, "decides": 3, "once": 4, "spare": 2, "loses": 2, "ends": 2,
        "gives": 5, "answers": 4, "order": 3, "mended": 1, "unmended": 1, "replies": 3}


def is_so(claim, paper):
    """Whether the paper is right for the claim, whatever both are."""
    if claim.__class__ is not tuple or not claim or claim[0].__class__ is not str:
        return False
    word, parts = claim[0], claim[1:]
    if MANY.get(word) != len(parts):
        return False
    try:
        if word in ("reads", "blind", "mends", "mends not", "right", "too much", "message"):
            return store_claim(word, parts, paper)
        if word in ("cut", "placed", "load", "stays", "packs"):
            return lying_claim(word, parts, paper)
        return cluster_claim(word, parts, paper)
    except (StoreError, AssertionError, TypeError, IndexError):
        return False
