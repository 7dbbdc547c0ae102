"""Slow looks at clusters by the document's words alone: surveys, the phases of mending, requests and their steps.

They use the modules that stand ahead of lettermend.harm, and nothing of those that are tested with them.
"""

from lettermend.clusters import contents_of, done_steps, standing
from lettermend.codes import letter, mended, pieces_of
from lettermend.files import cut_up
from lettermend.journals import batch_steps, disk_mending
from lettermend.meanings import answer
from lettermend.packing import packed
from lettermend.placement import placed
from lettermend.reading import (chunk_message, holders, meaning, meta_of, named, piece_for, right_holders, root_of)
from lettermend.schemes import room_of
from lettermend.shelves import held, put_batch, root_batch, shelf_root
from lettermend.errors import Full
from lettermend.trees import node_at


def slow_lost(cluster):
    """Whether a cluster is lost, and the least named chunk that is; (False, None) for a readable one."""
    if meta_of(cluster) is None:
        return True, None
    for chunk in named(cluster):
        if chunk_message(cluster, chunk) is None:
            return True, chunk
    return False, None


def slow_survey(cluster):
    """The survey of point 42."""
    scheme, width, _ = cluster
    used, rows = meta_of(cluster)[1], []
    for chunk in named(cluster):
        holding, right = holders(cluster, chunk), right_holders(cluster, chunk)
        where = placed(chunk, used, width)
        rows.append((chunk, right, tuple(at for at in holding if at not in right),
                     tuple(at for at in standing(cluster) if at in where and at not in holding),
                     tuple(at for at in holding if at not in where)))
    return tuple(rows)


def slow_spare(cluster):
    """The spare of point 43."""
    roots = [at for at in standing(cluster) if shelf_root(cluster[2][at]) == root_of(cluster)]
    return min([len(roots) - 1] + [len(row[1]) - len(row[2]) - cluster[0][3] for row in slow_survey(cluster)])


class Slow:
    """A mending under way, by the words of point 44."""

    def __init__(self, cluster):
        self.cluster = cluster
        self.steps = []
        self.put = []

    def write(self, shelf, writes):
        """Does these writes on a shelf."""
        steps = tuple((shelf, place, block) for place, block in writes)
        self.steps += steps
        self.cluster = done_steps(self.cluster, steps)

    def batch(self, shelf, batch):
        """Does a batch on a shelf."""
        self.write(shelf, batch_steps(self.cluster[2][shelf], batch))

    def clear(self, shelf, places):
        """Makes places free, eight in a batch."""
        while places:
            self.batch(shelf, tuple((place, ()) for place in places[:8]))
            places = places[8:]

    def homes(self, shelf):
        """The pairs of a place and its block of all homes of a quiet shelf that are not free."""
        return [(place, block) for place, block in enumerate(self.cluster[2][shelf]) if place > 9 and block]

    def first(self):
        for shelf in standing(self.cluster):
            self.write(shelf, disk_mending(self.cluster[2][shelf]))

    def second(self):
        root = root_of(self.cluster)
        for shelf in meta_of(self.cluster)[1]:
            if shelf in standing(self.cluster) and shelf_root(self.cluster[2][shelf]) != root:
                self.batch(shelf, root_batch(self.cluster[2][shelf], root))

    def third(self):
        chunks = named(self.cluster)
        for shelf in standing(self.cluster):
            self.clear(shelf, [place for place, block in self.homes(shelf) if block[0] not in chunks])

    def fourth(self):
        scheme = self.cluster[0]
        for chunk, _, wrong, lacking, _ in slow_survey(self.cluster):
            for shelf in sorted(wrong + lacking):
                right = right_holders(self.cluster, chunk)
                piece, givers = piece_for(self.cluster, chunk, shelf), ()
                if len(right) >= scheme[4]:
                    givers = right[:scheme[4]]
                    sent = [letter(scheme, piece_for(self.cluster, chunk, giver), shelf) for giver in givers]
                    piece = mended(scheme, shelf, givers, tuple(sent))
                self.batch(shelf, put_batch(self.cluster[2][shelf], chunk, piece))
                self.put.append((chunk, shelf, givers))

    def fifth(self):
        scheme, width, _ = self.cluster
        used, up = meta_of(self.cluster)[1], standing(self.cluster)
        lots = {chunk: placed(chunk, used, width) for chunk in named(self.cluster)}
        for shelf in up:
            places = []
            if shelf_root(self.cluster[2][shelf]) and shelf not in used and any(at in up for at in used):
                places.append(9)
            for place, block in self.homes(shelf):
                lot = lots[block[0]]
                if shelf not in lot and sum(at in up for at in lot) >= scheme[3]:
                    places.append(place)
            self.clear(shelf, places)


def slow_mending(cluster):
    """The five phases, the cluster behind them, and the pieces of phase 4; the phases are the chunk for Full."""
    slow, phases = Slow(cluster), []
    for phase in (slow.first, slow.second, slow.third, slow.fourth, slow.fifth):
        slow.steps = []
        try:
            phase()
        except Full as error:
            return error.given, None, None
        phases.append(tuple(slow.steps))
    return tuple(phases), slow.cluster, tuple(slow.put)


def slow_sent(cluster, put):
    """The numbers sent of point 47."""
    scheme = cluster[0]
    return sum(scheme[4] if givers else scheme[3] * room_of(scheme) for _, _, givers in put)


def node_from(node, path, files):
    """The node of META's tree, told that of the view at this path, and META's files by their paths."""
    if node[0] == "file":
        return files[path]
    return "room", tuple((name, node_from(inner, path + (name,), files)) for name, inner in node[1])


def files_by_path(tree, path=()):
    """The files of META's tree by their paths."""
    found = {}
    for name, node in tree:
        if node[0] == "file":
            found[path + (name,)] = node
        else:
            found.update(files_by_path(node[1], path + (name,)))
    return found


def files_behind(files, deed):
    """The files of META's tree by their paths behind a tree deed that is done, but for a put."""
    start = len(deed[1])
    inside = {path: node for path, node in files.items() if path[:start] == deed[1]}
    if deed[0] in ("copy", "move"):
        files = {**files, **{deed[2] + path[start:]: node for path, node in inside.items()}}
    if deed[0] in ("move", "remove"):
        files = {path: node for path, node in files.items() if path not in inside}
    return files


def slow_request(cluster, request):
    """(REPLY, STEPS, R) of a request to a mended cluster, by the words of points 36 and 37."""
    scheme, width, shelves = cluster
    before, up, deed = meaning(cluster), standing(cluster), request[2]
    reply, behind = answer(before, width, request)
    if behind == before:
        return reply, (), None
    version, used, marks, view = behind
    first, files, numbers = named(cluster)[-1] + 1, files_by_path(meta_of(cluster)[3]), ()
    if deed[0] not in ("join", "leave") and reply == "done":
        files = files_behind(files, deed)
        if deed[0] == "put":
            numbers = deed[2]
            many = len(cut_up(scheme, numbers))
            files = {**files, deed[1]: ("file", len(numbers), tuple(range(first, first + many)))}
    tree = node_from(node_at(view, ()), (), files)[1]
    if len([at for at in used if at not in up]) > width - scheme[3]:
        return "down", (), None
    if deed[0] == "join" and reply == "done" and deed[1] not in up:
        return "down", (), None
    messages = list(cut_up(scheme, numbers))
    # A number above 10 ** 9 is no META's, and the request is not done.
    if first + len(messages) - 1 > 10 ** 9:
        return "full", (), None
    row = packed((used, marks, tree))
    own = cut_up(scheme, row)
    new = dict(enumerate(messages + list(own), start=first))
    if len(own) > 60 or max(new) > 10 ** 9:
        return "full", (), None
    root = (version, len(row)) + tuple(new)[len(messages):]
    after = {chunk for node in files.values() for chunk in node[2]} | set(root[2:])
    for shelf in {*used, *before[1]}:
        wanted = {chunk for chunk in after if shelf in placed(chunk, used, width)}
        wanted |= {chunk for chunk in named(cluster) if shelf in placed(chunk, before[1], width)}
        wanted |= set(held(shelves[shelf])) if shelf in up else set()
        if len(wanted) > len(shelves[up[0]]) - 10:
            return "full", (), None
    slow, many = Slow(cluster), 0
    for chunk, message in new.items():
        for shelf in placed(chunk, used, width):
            if shelf in up:
                slow.batch(shelf, put_batch(slow.cluster[2][shelf], chunk, pieces_of(scheme, message)[shelf]))
                many += 1
    least = min(at for at in used if at in up)
    slow.batch(least, root_batch(slow.cluster[2][least], root))
    phases = slow_mending(slow.cluster)[0]
    return reply, tuple(slow.steps) + tuple(step for phase in phases for step in phase), many


def same_contents(one, other):
    """Whether all shelves have the same contents, whatever their slots hold."""
    return contents_of(one) == contents_of(other)
