"""The checker: point 63 and the heading lettermend/checker.py."""

from lettermend.checker import accepts
from lettermend.clusters import new_cluster, standing
from lettermend.codes import letter, pieces_of
from lettermend.disks import fresh_disk
from lettermend.files import cut_up
from lettermend.journals import batch_steps, contents
from lettermend.meanings import answer
from lettermend.mending import mended_cluster, steps_to_mend
from lettermend.packing import packed
from lettermend.placement import load, placed, score
from lettermend.plain import is_ordered
from lettermend.post import after_events, answers_of, new_post
from lettermend.reading import chunk_message, meaning, named, piece_for, right_holders
from lettermend.records import record
from lettermend.requests import decided_from, request_steps
from lettermend.surveys import losing_lot, spare
from lettermend.told import blind, told_of, unmended
from tests.claiming import MANY, is_so
from tests.harming import Dice, burn, full_one, harmed, hide_root, litter, narrow_one, renew, small_bases
from tests.making import FOUR, ONES, SIX, TIGHT, cluster_of, rotten, under_way, with_disk, without_chunk
from tests.posting import SCRIPTS, SMALL, WIDE, events_for
from tests.support import ODD, Told, nested
from tests.test_clusters import BURNT
from tests.test_meanings import LATER
from tests.test_reading import FILES
from tests.test_requests import ROOMS

TWICE = (11, 1, (((1,),), ((1,),), ((1,),)), (((), ((1,),), ((1,),)), (((1,),), (), ((1,),)), (((1,),), ((1,),), ())))
HALF = (11, 2, (((1, 0),), ((0, 1),), ((1, 1),)),
        (((), ((1,),), ((1,),)), (((1,),), (), ((1,),)), (((1,),), ((1,),), ())))
FEW, TIGHTER = told_of((11, "letters", 4, 2, 2)), told_of((11, "room", 5, 3, 4))
NEW = new_cluster(FOUR, 4, (0, 1, 2, 3), 12)
LAME = litter(hide_root(NEW, 1, ()), 2, 1)
EVENTS = (("send", 0), ("send", 1), ("bring", 0), ("bring", 0), ("cut", 1, 60, True), ("send", 2), ("bring", 0), ("bring", 1))
REQUESTS = ((2, 5, ("make", ("x",))), (2, 6, ("make", ("x",))), (2, 6, ("make", ("x",))), (2, 8, ("join", 0)),
            (2, 7, ("leave", 9)), (0, 1, ("leave", 4)), (0, 1, ("leave", 1)), (0, 2, ("join", 3)))


def papers_of(cluster):
    """The paper of the claim of what a cluster means."""
    return tuple((chunk, chunk_message(cluster, chunk)) for chunk in named(cluster))


def losing(cluster, shelves):
    """All papers with which these shelves are told to lose something."""
    return [paper for paper in ((),) + tuple((chunk,) for chunk in named(cluster))
            if is_so(("loses", cluster, shelves), paper)]


def giving(cluster, chunk, shelf):
    """The claim of the letters for a shelf, and its paper."""
    givers = tuple(at for at in right_holders(cluster, chunk) if at != shelf)[-cluster[0][4]:]
    letters = tuple(letter(cluster[0], piece_for(cluster, chunk, giver), shelf) for giver in givers)
    return ("gives", cluster, chunk, shelf, givers, letters), piece_for(cluster, chunk, shelf)


def store_claims():
    """Claims of stores, schemes, disks, placement and packing, each with a paper that is right."""
    yield ("reads", HALF, (0, 1)), ()
    yield ("reads", TWICE, (2,)), ()
    yield ("reads", FEW, (1, 3)), ()
    yield ("blind", HALF, (0,)), blind(HALF, (0,))
    yield ("blind", HALF, ()), (1, 0)
    yield ("blind", HALF, ()), (0, 10)
    yield ("blind", FEW, (2,)), blind(FEW, (2,))
    yield ("mends", HALF, 2, (0, 1)), ()
    yield ("mends", FEW, 0, (1, 3)), ()
    yield ("mends not", HALF, 2, (0,)), unmended(HALF, 2, (0,))
    yield ("mends not", HALF, 2, ()), (1, 0)
    yield ("mends not", FEW, 3, (1,)), unmended(FEW, 3, (1,))
    yield ("right", HALF, 2, 2), ()
    yield ("right", FEW, 2, 2), ()
    yield ("right", TIGHTER, 3, 4), ()
    yield ("too much", 4, 2, 2, 2, 1), ()
    yield ("too much", 1000, 12, 12, 5, 1), ()
    for scheme, message in ((FOUR, (1, 2, 3, 4, 5, 6)), (TIGHT, (0, 30, 2, 3, 4, 5))):
        pieces = pieces_of(scheme, message)
        yield ("message", scheme, message, (0,), pieces[:1]), ()
        yield ("message", scheme, message, (1, 3), (pieces[1], pieces[3])), ()
        yield ("message", scheme, message, tuple(range(scheme[2])), pieces), ()
    disk, batch = fresh_disk(3), ((10, (4, 1)), (12, ()), (9, (7,)))
    full = [(), (), (), ()]
    for count, torn, told in ((0, True, full), (3, True, full), (4, False, [(7,), (4, 1), (), ()]),
                              (8, False, [(7,), (4, 1), (), ()]), (10 ** 300, True, [(7,), (4, 1), (), ()])):
        yield ("cut", disk, batch, count, torn, tuple(told)), ()
    yield ("placed", 1, (0, 1, 2, 3, 4), 3, (1, 3, 4)), tuple(score(1, at) for at in range(5))
    yield ("placed", 552, (1, 4, 7, 9), 2, (1, 4)), (300,) * 4
    yield ("load", (0, 3, 9), 2, tuple(load((0, 3, 9), 2, at) for at in (0, 3, 9))), ()
    yield ("load", (1,), 1, (1009,)), ()
    yield ("stays", (0, 2), (0, 1, 2, 9), 2), ()
    yield ("stays", (0, 2), (0, 2), 1), ()
    meta = ((2, 9), ((5, 12, "taken"),), (("b", ("file", 3, (4,))), ("c", ("room", ()))))
    yield ("packs", meta, packed(meta)), ()


def cluster_claims():
    """Claims of clusters, requests and posts, each with a paper that is right."""
    request = (0, 1, ("put", ("a",), (1, 30)))
    for cluster in (NEW, LAME, burn(NEW, 3), with_disk(NEW, 2, under_way(NEW[2][2]))):
        yield ("means", cluster, meaning(cluster)), papers_of(cluster)
        yield ("ends", cluster, mended_cluster(cluster)), ()
        for count in range(spare(cluster) + 1):
            yield ("spare", cluster, count), ()
        lot = losing_lot(cluster)
        for paper in losing(cluster, lot):
            yield ("loses", cluster, lot), paper
        yield giving(cluster, 2, 3)
    yield ("means", FILES, meaning(FILES)), papers_of(FILES)
    yield ("loses", NEW, (0, 1, 2, 3)), ()
    yield ("loses", NEW, (0, 1, 2, 3)), (3,)
    yield ("lost", NEW, 4), ()
    yield ("lost", burn(NEW, 0, 1), 2), ()
    yield ("lost", BURNT, 10 ** 300), ()
    yield giving(FILES, 40, 3)
    yield ("decides", NEW, request, decided_from(NEW, request)), ()
    yield ("decides", burn(NEW, 0), (3, 1, ("make", ("a",))), decided_from(burn(NEW, 0), (3, 1, ("make", ("a",))))), ()
    yield ("once", LATER, 2, REQUESTS, (1, 4, 5, 7)), ()
    yield ("once", LATER, 2, (), ()), ()
    yield ("mended", NEW), ()
    yield ("mended", burn(NEW, 2)), ()
    yield ("unmended", LAME), steps_to_mend(LAME)[0]
    yield ("unmended", with_disk(NEW, 0, (None,) + NEW[2][0][1:])), (0, 0, ())
    for asked, reply in ((request, request_steps(NEW, request)[0]), ((0, 2, request[2]), "early")):
        yield ("replies", NEW, asked, reply), ()
    post = new_post(SMALL, SCRIPTS)
    yield ("answers", SMALL, SCRIPTS, EVENTS, answers_of(after_events(post, EVENTS))), ()
    yield ("order", SMALL, SCRIPTS, EVENTS), record(post, EVENTS)
    yield ("order", SMALL, SCRIPTS, ()), ()


CLAIMS = tuple(store_claims()) + tuple(cluster_claims())


def places(value, path=()):
    """The paths of all places in nested tuples."""
    yield path
    if isinstance(value, tuple):
        for at, inner in enumerate(value):
            yield from places(inner, path + (at,))


def at_place(value, path):
    """What stands at the place."""
    for at in path:
        value = value[at]
    return value


def with_place(value, path, other):
    """The value with another one at the place."""
    if not path:
        return other
    at = path[0]
    return value[:at] + (with_place(value[at], path[1:], other),) + value[at + 1:]


def bends(value):
    """Other values in the place of this one."""
    if isinstance(value, tuple):
        yield from (list(value), value + (0,), value + value[-1:], value[:-1], None, value[::-1])
    elif isinstance(value, bool):
        yield from (int(value), not value, None, "True")
    elif isinstance(value, int):
        yield from (value + 1, value - 1, str(value), (value,), None, float_free(value))
        if value in (0, 1):
            yield value == 1
    elif isinstance(value, str):
        yield from (value + "s", "", value.encode(), value.upper(), None)
    else:
        yield from ((), 0, False)


def float_free(value):
    """A whole number far from this one."""
    return value * 1000 + 7


class Accepts(Told):

    def same(self, claim, paper):
        """The checker accepts just what is so; what it says is told."""
        found = accepts(claim, paper)
        self.assertIs(found, bool(is_so(claim, paper)), (claim[:1], paper) if isinstance(claim, tuple) else claim)
        return found

    def test_each_claim_with_its_paper(self):
        words = set()
        for claim, paper in CLAIMS:
            self.assertIs(accepts(claim, paper), True, (claim, paper))
            self.assertIs(self.same(claim, paper), True)
            words.add(claim[0])
        self.assertEqual(words, set(MANY))
        self.assertIs(self.by_name(accepts, claim=("mended", NEW), paper=()), True)

    def test_other_papers(self):
        papers = list(ODD[::3]) + [(), (0,), (1,), ((),), [], None, 0, (1, 0), (0, 1), CLAIMS[-1][1], CLAIMS[-2][1]]
        for claim, paper in CLAIMS:
            for other in papers:
                self.same(claim, other)
            for path in list(places(paper))[:14]:
                for other in bends(at_place(paper, path)):
                    self.same(claim, with_place(paper, path, other))

    def test_claims_that_are_bent(self):
        accepted = 0
        for claim, paper in CLAIMS:
            if claim[0] in ("answers", "order"):
                continue
            paths = list(places(claim))
            step = max(1, len(paths) // 12)
            near = [path for path in paths if len(path) < 3]
            for path in near + paths[::step]:
                for other in bends(at_place(claim, path)):
                    accepted += self.same(with_place(claim, path, other), paper)
        self.assertGreater(accepted, 30)

    def test_posts_that_are_bent(self):
        for claim, paper in CLAIMS:
            if claim[0] in ("answers", "order"):
                for path in list(places(claim[2:]))[::2]:
                    for other in bends(at_place(claim[2:], path)):
                        bent = with_place(claim[2:], path, other)
                        if isinstance(bent, tuple):
                            self.same(claim[:2] + bent, paper)
                for cluster in (BURNT, LAME, burn(NEW, 0, 1), full_one()[0], burn(SMALL, 1), [SMALL], None):
                    self.same((claim[0], cluster) + claim[2:], paper)

    def test_parts_too_many_or_too_few(self):
        for claim, paper in CLAIMS:
            for other in (claim[:-1], claim + (0,), claim + ((),), claim[:1], claim + claim[-1:], list(claim), claim[1:],
                          (claim,), claim[0], (claim[0].encode(),) + claim[1:], (claim[0] + " ",) + claim[1:]):
                self.assertIs(accepts(other, paper), False)
                self.same(other, paper)

    def test_no_claims_at_all(self):
        for value in ODD + (5, (), "mended", ("",), (None, NEW), (("mended", NEW),), nested(40), ("mended", nested(38)),
                            ("means", nested(38), nested(38)), (nested(39),), ("order", nested(38), nested(38), nested(38))):
            for paper in ODD + ((), nested(40), 0):
                self.assertIs(accepts(value, paper), False)
        for word in MANY:
            for value in ODD + (5, (), nested(38), ((),), -1, 10 ** 300):
                self.assertIs(accepts((word,) + (value,) * MANY[word], ()), False, (word, value))
                self.assertIs(accepts((word,) + (value,) * MANY[word], value), False)
                self.same((word,) + (value,) * MANY[word], ())

    def test_one_wrong_part(self):
        # Each part of each claim is of a wrong kind, by itself.
        for claim, paper in CLAIMS:
            for at in range(1, len(claim)):
                for value in ODD + (-1, 10 ** 300, (), ((),), ((1,),), "a"):
                    self.same(claim[:at] + (value,) + claim[at + 1:], paper)

    def test_lists_and_truths_in_their_places(self):
        for claim, paper in CLAIMS:
            if claim[0] == "cut":
                for torn in (0, 1, None, "True"):
                    self.assertIs(accepts(claim[:4] + (torn,) + claim[5:], paper), False)
        for claim in (("right", HALF, 2, True), ("right", TWICE, True, True), ("spare", NEW, True), ("spare", NEW, False),
                      ("too much", True, True, True, True, True), ("lost", BURNT, True), ("load", (0,), True, (1009,)),
                      ("stays", (0,), (0,), True), ("stays", (False,), (0,), 1), ("placed", True, (0,), 1, (0,))):
            for paper in ((), [], (856,)):
                self.assertIs(accepts(claim, paper), False)
        self.assertIs(accepts(("right", TWICE, 1, 1), ()), True)
        self.assertIs(accepts(("placed", 1, (0,), 1, (0,)), (856,)), True)
        self.assertIs(accepts(("placed", 1, (0,), 1, (False,)), (856,)), False)


class Truths(Told):

    def test_edges_of_parts(self):
        scores = tuple(shelf * 104729 % 1009 for shelf in (0, 3))
        lot = tuple(sorted(sorted((0, 3), key=lambda shelf: (shelf * 104729 % 1009, shelf))[:1]))
        one = (31, "letters", 6, 3, 3), (1, 2, 3, 4, 5, 6)
        for claim, paper, right in ((("message",) + one + ((), ()), (), False),
                                    (("message",) + one + ((5,), pieces_of(*one)[5:]), (), True),
                                    (("too much", 4, 2, 2, 0, 1), (), False), (("too much", 4, 2, 2, 2, 0), (), False),
                                    (("too much", 2, 1, 1, 1000, 1), (), True), (("too much", 2, 1, 1, 1, 1000), (), True),
                                    (("placed", 0, (0, 3), 1, lot), scores, False), (("lost", NEW, 0), (), False),
                                    (("lost", NEW, -1), (), False), (("decides", ROOMS, (0, 4, ("make", ("z",))), None), (),
                                                                     False),
                                    (("once", (1, (0, 1, 2), (), ()), 3, (), ()), (), True),
                                    (("once", (1, (0, 1, 2), (), ()), 4, (), ()), (), False)):
            self.assertIs(accepts(claim, paper), right, claim)
            self.assertIs(bool(is_so(claim, paper)), right, claim)

    def test_schemes_of_which_more_mend_than_read(self):
        tight, ones = new_cluster(TIGHT, 5, (0, 1, 2, 3, 4), 12), new_cluster(ONES, 7, tuple(range(7)), 9)
        for cluster in (tight, burn(tight, 1), burn(tight, 0, 3), ones, burn(ones, 0, 1, 2, 3, 4, 6), burn(tight, 0, 1, 2)):
            for chunk in range(1, 6):
                claim = ("lost", cluster, chunk)
                self.assertIs(accepts(claim, ()), bool(is_so(claim, ())))
            if meaning(cluster) is None:
                continue
            self.assertIs(accepts(("means", cluster, meaning(cluster)), papers_of(cluster)), True)
            for many in range(1, len(standing(cluster)) + 1):
                lot = standing(cluster)[:many]
                for chunk in named(cluster):
                    claim = ("loses", cluster, lot)
                    self.assertIs(accepts(claim, (chunk,)), bool(is_so(claim, (chunk,))))
            claim, paper = giving(cluster, 1, cluster[0][2] - 1)
            enough = len(claim[4]) == cluster[0][4]
            self.assertIs(accepts(claim, paper), enough)
            self.assertIs(accepts(claim[:4] + (claim[4][:cluster[0][3]], claim[5][:cluster[0][3]]), paper), False)

    def test_roots_and_packings_that_tell_nothing(self):
        used = (0, 1, 2, 3)
        right = packed((used, (), ()))
        for numbers, root, told in ((right, (1, 14, 1, 2, 3), True), (right + (0,) * 6, (1, 14, 1, 2, 3, 4), False),
                                    (right, (1, 12, 1, 2, 3), False), ((0,) * 14, (1, 14, 1, 2, 3), False),
                                    (right[:-1] + (1,), (1, 14, 1, 2, 3), False), (right, (), False)):
            messages = tuple(enumerate(cut_up(FOUR, numbers), start=1))
            cluster = cluster_of(FOUR, 4, 9, used, root, messages)
            self.assertIs(meaning(cluster) is not None, told)
            for paper in (messages, messages[:3], messages[:2], ()):
                self.assertIs(accepts(("means", cluster, (1, used, (), ())), paper), told and paper == messages)

    def test_a_leave_in_a_run(self):
        # The width decides what the plain store answers to it.
        events = (("send", 0), ("bring", 0), ("bring", 0)) * 2
        for cluster, answers in ((SMALL, ("too few", "too few")), (WIDE, ("too few", "too few")),
                                 (new_cluster(SIX, 4, (0, 1, 2, 3, 4), 30), ("done", "too few"))):
            scripts = ((("leave", 0), ("leave", 1)),)
            self.assertIs(accepts(("answers", cluster, scripts, events, (answers,)), ()), True)
            self.assertIs(accepts(("order", cluster, scripts, events), ((0, 0, 0, 1, 2), (0, 1, 3, 4, 5))), True)

    def test_what_is_no_order(self):
        # No run on a new post is such a one, so the look at it is tried by itself.
        start = (1, (0, 1, 2, 3), (), ())
        behind = answer(start, 4, (0, 1, ("make", ("a",))))[1]
        clients = ((0, (("make", ("a",)),), ("done",)), (0, (("read", ("a",)), ("read", ("a",))), (None, None)))
        rows = ((1, 0, 0, 1, 2), (0, 0, 3, 4, 5), (1, 1, 6, 7, 8))
        self.assertIs(is_ordered(start, 4, clients, rows, behind), True)
        self.assertIs(is_ordered(start, 4, clients, rows[1:] + rows[:1], behind), True)
        for bad in (((0, 0, 4, 4, 5),), ((0, 0, 3, 5, 5),), ((0, 0, 5, 4, 3),), ((0, 0, 3, 5, 4),), ((0, 0, None, 5, 4),),
                    ()):
            self.assertIs(is_ordered(start, 4, clients, rows[:1] + bad + rows[2:], behind), False)
        for row in ((0, 0, None, 4, None), (0, 0, None, 4, 5), (0, 0, 3, 4, None)):
            self.assertIs(is_ordered(start, 4, clients, (row,), behind), True)
        for outcome in ("taken", "no such"):
            self.assertIs(is_ordered(start, 4, ((0, (("make", ("a",)),), (outcome,)),), rows[1:2], behind), False)
        # A file that is put is found from then on, and no more ahead of it.
        put = ((0, (("put", ("a",), (5,)),), ("done",)), (0, (("read", ("a",)),), ((5,),)))
        behind = answer(start, 4, (0, 1, put[0][1][0]))[1]
        self.assertIs(is_ordered(start, 4, put, ((0, 0, 0, 1, 2), (1, 0, 3, 4, 5)), behind), True)
        self.assertIs(is_ordered(start, 4, put, ((1, 0, 3, 4, 5), (0, 0, 0, 1, 2)), behind), False)
        self.assertIs(is_ordered(start, 4, put, ((0, 0, 0, 1, 2),), start), False)

    def test_claims_that_exclude_one_another(self):
        # Of the two at most one has a paper.
        rows = [()] + [(a, b) for a in range(11) for b in range(11)]
        for lot in ((), (0,), (0, 1), (0, 1, 2), (2,)):
            sides = [any(accepts((word, HALF, lot), paper) for paper in rows) for word in ("reads", "blind")]
            self.assertEqual(sorted(sides), [False, True])
        for givers in ((), (0,), (1,), (0, 1)):
            sides = [any(accepts((word, HALF, 2, givers), paper) for paper in rows) for word in ("mends", "mends not")]
            self.assertEqual(sorted(sides), [False, True])
        for cluster in [NEW, LAME, BURNT, full_one()[0], narrow_one()[0]] + list(harmed(small_bases(), 3, 4)):
            papers = [(), (0, 0, ())] + ([steps_to_mend(cluster)[0]] if cluster == LAME else [])
            sides = [any(accepts((word, cluster), paper) for paper in papers) for word in ("mended", "unmended")]
            self.assertLessEqual(sum(sides), 1)

    def test_full_and_lost_clusters(self):
        full, chunk = full_one()
        lost = burn(NEW, 0, 1)
        for paper in ((), (0, 0, ()), (0, 1, (10, 1))):
            for cluster in (full, lost, BURNT):
                for claim in (("mended", cluster), ("unmended", cluster), ("ends", cluster, cluster)):
                    self.assertIs(accepts(claim, paper), False)
            for cluster in (lost, BURNT):
                for claim in (("spare", cluster, 0), ("loses", cluster, standing(cluster)), ("means", cluster, None)):
                    self.assertIs(accepts(claim, paper), False)
        self.assertIs(accepts(("spare", full, 0), ()), True)
        self.assertIs(accepts(("means", full, meaning(full)), papers_of(full)), True)
        self.assertIs(accepts(("lost", full, chunk), ()), False)

    def test_means(self):
        for cluster in list(harmed(small_bases(), 3, 5)):
            meant = meaning(cluster)
            if meant is None:
                continue
            paper = papers_of(cluster)
            self.assertIs(accepts(("means", cluster, meant), paper), True)
            for other in (paper[1:], paper[:-1], paper[::-1], paper + paper[-1:], paper + ((10 ** 12, paper[0][1]),), (),
                          tuple((chunk, message[::-1]) for chunk, message in paper), list(paper),
                          tuple(list(pair) for pair in paper), ((True,) + paper[0][1:],) + paper[1:]):
                self.assertIs(accepts(("means", cluster, meant), other), bool(is_so(("means", cluster, meant), other)))
            for bent in ((meant[0] + 1,) + meant[1:], meant[:2] + ((),) + meant[3:], meant[:3], list(meant), None):
                self.assertIs(accepts(("means", cluster, bent), paper), repr(bent) == repr(meant))

    def test_means_with_wrong_pieces(self):
        # As many other pieces as are borne, and one more: then there is no such message.
        tall = new_cluster((31, "letters", 7, 3, 3), 7, tuple(range(7)), 9)
        for chunk in named(tall):
            cluster = tall
            for many in range(4):
                claim, paper = ("means", cluster, meaning(tall)), papers_of(tall)
                self.assertIs(accepts(claim, paper), many < 3)
                cluster = rotten(cluster, many, chunk, (1, 0, 0))
        # A message that K pieces have and others not is none either.
        lame = without_chunk(without_chunk(NEW, 0, 2), 1, 2)
        self.assertIs(accepts(("means", lame, meaning(NEW)), papers_of(NEW)), False)

    def test_lost(self):
        for cluster in (NEW, FILES, burn(FILES, 0, 3), without_chunk(NEW, 2, 3), rotten(NEW, 1, 1, (1, 0, 0))):
            for chunk in (1, 2, 3, 4, 21, 40, 10 ** 9, 10 ** 300):
                self.assertIs(accepts(("lost", cluster, chunk), ()), bool(is_so(("lost", cluster, chunk), ())))
        # Three pieces of which one is wrong are no message's, but the chunk is held.
        self.assertIs(accepts(("lost", rotten(burn(NEW, 0), 1, 1, (1, 0, 0)), 1), ()), False)

    def test_spare_and_loses(self):
        for cluster in list(harmed(small_bases(), 1, 4)) + [burn(ROOMS, 1), new_cluster(SIX, 4, (0, 1, 2, 3, 4, 5), 9)]:
            if meaning(cluster) is None:
                continue
            many, up = spare(cluster), standing(cluster)
            for count in range(-1, len(up) + 2):
                self.assertIs(accepts(("spare", cluster, count), ()), 0 <= count <= many)
            self.assertIs(accepts(("loses", cluster, losing_lot(cluster)), losing(cluster, losing_lot(cluster))[0]), True)
            for dice in range(4):
                lot = tuple(shelf for shelf in up if (dice * 7 + shelf * 3) % 5 < 3)
                for paper in ((),) + tuple((chunk,) for chunk in named(cluster)) + ((10 ** 9 + 1,), (0,), (True,)):
                    claim = ("loses", cluster, lot)
                    self.assertIs(accepts(claim, paper), bool(is_so(claim, paper)))

    def test_gives(self):
        for cluster in (NEW, burn(NEW, 1), FILES, rotten(FILES, 2, 40, (1, 0, 0))):
            for chunk in named(cluster)[:4]:
                for shelf in range(cluster[0][2]):
                    others = [at for at in right_holders(cluster, chunk) if at != shelf]
                    if len(others) < cluster[0][4]:
                        continue
                    claim, paper = giving(cluster, chunk, shelf)
                    self.assertIs(accepts(claim, paper), True)
                    for givers in (claim[4][::-1], claim[4][1:], claim[4] + claim[4][-1:], tuple(others), (shelf,) * 3,
                                   tuple(sorted(claim[4][1:] + (shelf,))), list(claim[4])):
                        bent = claim[:4] + (givers,) + claim[5:]
                        self.assertIs(accepts(bent, paper), bool(is_so(bent, paper)))
        # What is not named is not given, nor what a wrong holder has.
        claim, paper = giving(NEW, 2, 0)
        self.assertIs(accepts(claim[:2] + (4,) + claim[3:], paper), False)
        wrong = rotten(FILES, 2, 40, (1, 0, 0))
        claim, paper = giving(wrong, 40, 1)
        for givers in ((0, 2, 3), (2, 3, 4), (0, 3, 4)):
            bent = claim[:4] + (givers,) + claim[5:]
            self.assertIs(accepts(bent, paper), bool(is_so(bent, paper)))

    def test_decides(self):
        for cluster, asked in ((NEW, (0, 1, ("make", ("a",)))), (ROOMS, (0, 5, ("remove", ("c",)))),
                               (WIDE, (2, 1, ("join", 5)))):
            decides = decided_from(cluster, asked)
            steps = request_steps(cluster, asked)[1]
            for count in list(range(decides - 3, decides + 4)) + [0, len(steps), len(steps) + 1, 10 ** 300]:
                self.assertIs(accepts(("decides", cluster, asked, count), ()), count == decides)
        for cluster, asked in ((ROOMS, (0, 4, ("make", ("z",)))), (ROOMS, (0, 6, ("make", ("z",)))),
                               (burn(WIDE, 5), (0, 1, ("join", 5))), (LAME, (0, 1, ("make", ("a",)))),
                               (BURNT, (0, 1, ("make", ("a",))))):
            for count in (0, 2, 62, 98):
                self.assertIs(accepts(("decides", cluster, asked, count), ()), False)

    def test_once(self):
        meant = LATER
        for many in range(len(REQUESTS) + 1):
            for indexes in ((1, 4, 5, 7), (1, 4, 5), (1, 4), (1,), (), (0, 1), (1, 5), (4, 1), (1, 1)):
                claim = ("once", meant, 2, REQUESTS[:many], indexes)
                self.assertIs(accepts(claim, ()), bool(is_so(claim, ())))
        one = REQUESTS[1]
        self.assertIs(accepts(("once", meant, 2, (one,) * 60, (0,)), ()), True)
        self.assertIs(accepts(("once", meant, 2, (one,) * 61, (0,)), ()), False)
        for width in (0, 4, True, 3):
            self.assertIs(accepts(("once", meant, width, (one,), (0,)), ()), width == 3)
        self.assertEqual(answer(meant, 3, one)[0], "done")

    def test_replies(self):
        for cluster in (NEW, ROOMS, burn(WIDE, 5), LAME, BURNT, full_one()[0]):
            for asked in ((0, 1, ("make", ("x",))), (0, 5, ("make", ("a",))), (0, 4, ("make", ("a",))), (0, 9, ("join", 3)),
                          (1, 1, ("join", 5)), (0, 1, ("put", ("a",), (31,))), (0, 0, ("make", ("x",)))):
                for reply in ("done", "taken", "old", "early", "down", "full", "used", "too few", "Done", "", None, ("done",)):
                    claim = ("replies", cluster, asked, reply)
                    self.assertIs(accepts(claim, ()), bool(is_so(claim, ())))

    def test_runs_of_posts(self):
        for seed in range(6):
            events = events_for(Dice(seed), 40, 3, 5)
            post = new_post(SMALL, SCRIPTS)
            told, rows = answers_of(after_events(post, events)), record(post, events)
            self.assertIs(accepts(("answers", SMALL, SCRIPTS, events, told), ()), True)
            self.assertIs(accepts(("order", SMALL, SCRIPTS, events), rows), True)
            for bent in (told[1:], told + ((),), tuple(map(list, told)), (told[0] + ("done",),) + told[1:], list(told)):
                self.assertIs(accepts(("answers", SMALL, SCRIPTS, events, bent), ()), False)
            for bent in (rows[:-1], rows[::-1], rows + rows[-1:], list(rows), tuple(map(list, rows))):
                self.assertIs(accepts(("order", SMALL, SCRIPTS, events), bent), repr(bent) == repr(rows))
            self.assertIs(accepts(("order", SMALL, SCRIPTS, events * 6), rows), False)
        narrow = narrow_one()[0]
        events = (("send", 0), ("new", 9), ("bring", 0), ("mend", 3, True), ("cut", 0, 1, True), ("burn", 9))
        self.assertIs(accepts(("order", narrow, ((("make", ("b",)),),), events), ()), True)
        self.assertIs(accepts(("answers", narrow, ((("make", ("b",)),),), events, ((),)), ()), True)

    def test_placed_load_and_stays(self):
        for used in ((0,), (1, 4, 7, 9), tuple(range(10))):
            for width in range(1, len(used) + 1):
                loads = tuple(load(used, width, at) for at in used)
                self.assertIs(accepts(("load", used, width, loads), ()), True)
                self.assertIs(accepts(("load", used, width, loads[::-1]), ()), loads == loads[::-1])
                self.assertIs(accepts(("load", used, width, loads[:-1] + (loads[-1] + 1,)), ()), False)
                for chunk in (1, 2, 552, 1009, 10 ** 300):
                    scores, lot = tuple(score(chunk, at) for at in used), placed(chunk, used, width)
                    self.assertIs(accepts(("placed", chunk, used, width, lot), scores), True)
                    self.assertIs(accepts(("placed", chunk, used, width, lot), scores[:-1] + (scores[-1] + 1,)), False)
                    self.assertIs(accepts(("placed", chunk, used, width, lot[1:] + (9,)), scores),
                                  lot[1:] + (9,) == lot)
        for used, other, width, right in (((0, 1), (0, 1, 2), 2, True), ((0, 1), (0, 1, 2), 3, False),
                                          ((0, 1, 2), (0, 1), 2, False), ((0, 1), (0, 2, 3), 1, False),
                                          ((0, 9), (0, 9), 2, True), ((0, 10), (0, 10), 2, False)):
            self.assertIs(accepts(("stays", used, other, width), ()), right)

    def test_too_much(self):
        for claim, right in (((4, 2, 2, 2, 1), True), ((3, 2, 2, 2, 1), False), ((7, 3, 4, 2, 1), True),
                             ((6, 3, 4, 2, 1), False), ((1000, 1, 1, 999, 999), True), ((1000, 1, 1, 1000, 1000), False),
                             ((1001, 1, 1, 1, 1), False), ((5, 0, 2, 1, 1), False), ((5, 3, 2, 1, 1), False),
                             ((50, 12, 13, 1, 1), False), ((50, 13, 13, 1, 1), False), ((50, 12, 12, 1, 1), True),
                             ((50, 2, 2, 1001, 1), False), ((50, 2, 2, 1, 1001), False), ((0, 2, 2, 1, 1), False)):
            self.assertIs(accepts(("too much",) + claim, ()), right)

    def test_cuts_of_disks(self):
        disk, batch = fresh_disk(2), ((11, (3, 3)), (9, (1,)))
        steps = batch_steps(disk, batch)
        before, behind = contents(disk), ((1,), (), (3, 3))
        for count in range(len(steps) + 2):
            for torn in (False, True):
                for told in (before, behind):
                    self.assertIs(accepts(("cut", disk, batch, count, torn, told), ()), (told == behind) == (count > 2))
        for bad in (disk[:9] + (None,) + disk[10:], (None,) + disk[1:], ((1,), (10, 1)) + disk[2:], disk[:10], list(disk)):
            self.assertIs(accepts(("cut", bad, batch, 0, False, before), ()), False)
        for bad in ((), batch + batch, ((12, ()),), ((8, ()),), ((10, None),), [batch[0]], ((10, (1,) * 81),)):
            self.assertIs(accepts(("cut", disk, bad, 0, False, before), ()), False)

    def test_renewed_and_mended(self):
        lame = renew(burn(WIDE, 2), 2)
        end = mended_cluster(lame)
        self.assertIs(accepts(("ends", lame, end), ()), True)
        self.assertIs(accepts(("ends", end, end), ()), True)
        self.assertIs(accepts(("ends", lame, WIDE), ()), False)
        self.assertIs(accepts(("ends", lame, lame), ()), False)
        self.assertIs(accepts(("unmended", lame), steps_to_mend(lame)[0]), True)
        for step in steps_to_mend(lame)[1:4]:
            self.assertIs(accepts(("unmended", lame), step), False)
