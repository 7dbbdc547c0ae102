"""The whole program: points 1 to 5, in runs that go through all of its parts."""

import inspect

from lettermend.bound import least_letters, least_room, most_numbers
from lettermend.certificates import certify_meaning, certify_mended, certify_order, certify_reply
from lettermend.checker import accepts
from lettermend.clusters import cut_steps, done_steps, is_cluster, new_cluster
from lettermend.codes import letter, mended, pieces_of
from lettermend.console import answer_line
from lettermend.harm import burnt, renewed, rotten
from lettermend.meanings import answer
from lettermend.mending import givers_of, is_mended, mended_cluster, numbers_sent, steps_to_mend
from lettermend.post import after_events, answers_of, new_post, settled
from lettermend.reading import holders, meaning, named, piece_for
from lettermend.records import record
from lettermend.requests import decided_from, read, request_steps
from lettermend.runs import after_event, begin, is_held
from lettermend.schemes import room_of, size_of
from lettermend.surveys import losing_lot, spare
from lettermend.trees import node_at, paths_of
from tests.harming import Dice, burn, renew
from tests.making import ONES, SIX, TIGHT, cluster_schemes
from tests.posting import SCRIPTS, events_for, plain_store
from tests.support import Told, rows_like
from tests.test_interface import INTERFACE

DEEDS = (("make", ("a",)), ("put", ("a", "b"), (1, 2, 3)), ("put", ("c",), tuple(range(17))), ("copy", ("a",), ("d",)),
         ("move", ("c",), ("d", "c")), ("put", ("a", "b"), ()), ("remove", ("a",)), ("join", 5), ("leave", 1), ("make", ("q", "r")),
         ("put", ("d", "b"), (4, 4, 4)))


class Life(Told):

    def certified(self, cluster, request):
        """The checker accepts what this package tells of the cluster."""
        for found in (certify_meaning(cluster), certify_mended(cluster)):
            self.assertIs(accepts(*found), True)
        if is_mended(cluster):
            self.assertIs(accepts(*certify_reply(cluster, request)), True)

    def all_reads(self, cluster, meant):
        """Each read of a mended cluster tells what the plain store has."""
        self.assertEqual(read(cluster, ()), ("room", meant[3]))
        for path in paths_of(meant[3]):
            self.assertEqual(read(cluster, path), node_at(meant[3], path))

    def mended_again(self, cluster, meant):
        """The cluster, after a shelf burnt and was renewed and all was mended, cut on the way: whole as before."""
        shelf = meant[1][len(meant[3]) % len(meant[1])]
        lame = renewed(burnt(cluster, shelf), shelf)
        sent = numbers_sent(lame)
        lost = [chunk for chunk in named(cluster) if shelf in holders(cluster, chunk)]
        self.assertEqual([row[:2] for row in givers_of(lame)], [(chunk, shelf) for chunk in lost])
        givers = [len(row[2]) for row in givers_of(lame)]
        if all(givers):
            self.assertEqual(sent, cluster[0][4] * len(lost))
        steps = steps_to_mend(lame)
        for count in (0, len(steps) // 3, len(steps) // 2, len(steps)):
            cut = cut_steps(lame, steps, count, True)
            self.assertEqual(meaning(cut), meant)
            self.assertEqual(mended_cluster(cut), mended_cluster(lame))
        return mended_cluster(lame)

    def test_founded_asked_cut_burnt_renewed_mended_and_read(self):
        for scheme, width, used in ((SIX, 5, (0, 1, 2, 3, 4)), (SIX, 4, (0, 1, 2, 3, 4)), (ONES, 7, tuple(range(8))),
                                    (TIGHT, 5, (0, 1, 2, 3, 4))):
            cluster = new_cluster(scheme, width, used, 40)
            plain, seq = meaning(cluster), 0
            for deed in DEEDS:
                if deed[0] in ("join", "leave") and deed[1] >= scheme[2]:
                    continue
                seq += 1
                request = (3, seq, deed)
                reply, behind = answer(plain, width, request)
                told, steps = request_steps(cluster, request)
                self.assertEqual(told, reply)
                decides = decided_from(cluster, request)
                cut = cut_steps(cluster, steps, (decides * 7 * seq) % len(steps), seq % 2 == 0)
                self.assertEqual(meaning(cut), plain if (decides * 7 * seq) % len(steps) < decides else behind)
                cluster = mended_cluster(cut)
                again, more = request_steps(cluster, request)
                self.assertEqual(again, reply)
                cluster, plain = done_steps(cluster, more), behind
                self.assertEqual(meaning(cluster), plain)
                self.certified(cluster, (3, seq + 1, deed))
                cluster = self.mended_again(cluster, plain)
                self.all_reads(cluster, plain)
                self.assertIs(is_cluster(cluster), True)

    def test_any_lot_that_is_spared(self):
        cluster, run = new_cluster(SIX, 5, (0, 1, 2, 3, 4), 40), None
        run = begin(cluster)
        for seq, deed in enumerate(DEEDS[:5], start=1):
            reply, run = after_event(run, ("request", (0, seq, deed)))
            self.assertEqual(reply, "done")
            self.assertEqual(spare(run[0]), 2)
            meant = meaning(run[0])
            self.assertNotEqual(meaning(burn(run[0], *losing_lot(run[0]))), meant)
            for first in range(5):
                for second in range(first):
                    two = after_event(after_event(run, ("burn", first))[1], ("burn", second))[1]
                    self.assertIs(is_held(two), True)
                    self.assertEqual(meaning(two[0]), meant)
                    back = mended_cluster(renew(two[0], first, second))
                    self.all_reads(back, meant)

    def test_clients_of_a_store_that_is_harmed(self):
        for seed in range(6):
            cluster = new_cluster(SIX, 5, (0, 1, 2, 3, 4), 40)
            start = new_post(cluster, SCRIPTS)
            events = events_for(Dice(seed * 11), 60, 3, 6)
            post = after_events(start, events)
            plain_store(self, start, post, record(start, events))
            self.assertIs(accepts(*certify_order(cluster, SCRIPTS, events)), True)
            end = settled(post)
            self.assertEqual([len(answers) for answers in answers_of(end)], [len(script) for script in SCRIPTS])
            self.all_reads(end[0], meaning(end[0]))

    def test_told_to_the_console(self):
        state, plain = (), None
        for line, text in (("found letters 31 6 3 3 5 40", "founded"), ("make a", "done"), ("put a/b 1 2 3", "done"),
                           ("burn 4", "burnt"), ("put c 9", "done"), ("renew 4", "renewed"), ("spare", "1"),
                           ("mend 7 torn", "cut"), ("mend", "mended"), ("spare", "2"), ("cut 40 torn put c 8", "cut"),
                           ("mend", "mended"), ("read c", "9"), ("cut 90000 put c 8", "done"), ("read c", "8"),
                           ("rot 1 1 1", "no piece"), ("join 5", "used"), ("leave 0", "done"), ("burn 0", "burnt"),
                           ("read a/b", "1 2 3"), ("read", "a/ c")):
            state, found = answer_line(state, line)
            self.assertEqual(found, text, line)
        plain = meaning(state)
        self.assertEqual(plain[1], (1, 2, 3, 4, 5))
        self.certified(state, (0, plain[2][0][1] + 1, ("make", ("z",))))


class Letters(Told):

    def test_no_letter_less(self):
        # One number from each of D, and no store takes less with as much room for as many numbers.
        for scheme in cluster_schemes((31,), 7):
            _, way, many, parts, helpers = scheme
            size, room = size_of(scheme), room_of(scheme)
            self.assertEqual(most_numbers(parts, helpers, room, 1), size)
            for times in (1, 2, 5):
                self.assertEqual(least_letters(times * size, parts, helpers, times * room), times)
            if way == "room":
                self.assertEqual(least_room(size, parts, helpers, 1), room)
            message = rows_like(31, size, many)
            pieces = pieces_of(scheme, message)
            for lost in range(many):
                givers = tuple(shelf for shelf in range(many) if shelf != lost)[-helpers:]
                sent = tuple(letter(scheme, pieces[giver], lost) for giver in givers)
                self.assertTrue(all(number.__class__ is int for number in sent))
                self.assertEqual(mended(scheme, lost, givers, sent), pieces[lost])

    def test_one_wrong_piece_is_mended_by_letters(self):
        tall = new_cluster((31, "letters", 7, 3, 4), 7, tuple(range(7)), 9)
        for shelf in range(7):
            for chunk in named(tall):
                foul = rotten(tall, shelf, chunk, (0, 0, 0, 0))
                if foul == tall:
                    continue
                (where, at, givers), = givers_of(foul)
                self.assertEqual((where, at, len(givers), numbers_sent(foul)), (chunk, shelf, 4, 4))
                sent = tuple(letter(tall[0], piece_for(foul, chunk, giver), shelf) for giver in givers)
                self.assertEqual(mended(tall[0], shelf, givers, sent), piece_for(tall, chunk, shelf))
                self.assertEqual(meaning(mended_cluster(foul)), meaning(tall))


class Conventions(Told):

    def test_no_parameter_has_a_default_or_is_barred_from_a_position_or_a_name(self):
        for module, listed in INTERFACE.items():
            found = __import__("lettermend." + module, fromlist=["x"])
            for text in listed:
                function = getattr(found, text.partition("(")[0])
                for parameter in inspect.signature(function).parameters.values():
                    self.assertEqual(parameter.kind, parameter.POSITIONAL_OR_KEYWORD)
                    self.assertIs(parameter.default, parameter.empty)

    def test_equal_calls_return_equal_results(self):
        one, other = (new_cluster(SIX, 5, (0, 1, 2, 3, 4), 40) for _ in range(2))
        request = (0, 1, ("put", ("a",), tuple(range(20))))
        self.assertEqual(request_steps(one, request), request_steps(other, request))
        self.assertEqual(request_steps(one, request), request_steps(one, request))
        events = events_for(Dice(5), 40, 3, 5)
        self.assertEqual(certify_order(one, SCRIPTS, events), certify_order(other, SCRIPTS, events))
