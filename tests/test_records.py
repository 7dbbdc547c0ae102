"""Records: points 58 and 59 and the heading lettermend/records.py."""

from lettermend.clustererrors import InvalidEvents, InvalidPost
from lettermend.meanings import mark_of
from lettermend.post import after_events, answers_of, new_post, settled
from lettermend.reading import meaning
from lettermend.records import record
from lettermend.requests import decided_from
from lettermend.wishes import waits_at
from tests.harming import Dice, burn
from tests.posting import (DROP_A, LARGE, MAKE_A, PUT_A, PUT_B, READ_A, READ_B, SCRIPTS, SMALL, TIGHTER, WIDE, events_for,
                           plain_store, slow_record)
from tests.support import ODD, Told
from tests.test_clusters import BURNT
from tests.test_post import POST, client_of

START = new_post(WIDE, ((PUT_A, READ_A), (READ_A, DROP_A)))
SERVED = (("send", 0), ("bring", 0), ("bring", 0))


class Records(Told):

    def same(self, post, events):
        """The record is that of the words; it is returned."""
        found, behind = slow_record(post, events)
        self.assertEqual(record(post, events), found)
        self.assertEqual(after_events(post, events), behind)
        return found

    def test_one_wish_after_the_other(self):
        self.assertEqual(self.same(START, ()), ())
        self.assertEqual(self.same(START, SERVED), ((0, 0, 0, 1, 2),))
        self.assertEqual(self.same(START, SERVED + SERVED), ((0, 0, 0, 1, 2), (0, 1, 3, 4, 5)))
        other = (("send", 1), ("bring", 0), ("bring", 0))
        self.assertEqual(self.same(START, SERVED + other + other),
                         ((0, 0, 0, 1, 2), (1, 0, 3, 4, 5), (1, 1, 6, 7, 8)))
        self.assertEqual(self.by_name(record, post=START, events=SERVED), ((0, 0, 0, 1, 2),))

    def test_a_deed_whose_answer_is_not_taken(self):
        self.assertEqual(self.same(START, SERVED[:2]), ((0, 0, 0, 1, None),))
        self.assertEqual(self.same(START, SERVED[:2] + (("lose", 0),)), ((0, 0, 0, 1, None),))
        # Sent again it finds its mark: when it was first sent and done stays.
        again = SERVED[:2] + (("lose", 0), ("send", 0), ("bring", 0), ("bring", 0))
        self.assertEqual(self.same(START, again), ((0, 0, 0, 1, 5),))
        # A read whose answer is not taken is none of the record.
        reads = SERVED + (("send", 0), ("bring", 0))
        self.assertEqual(self.same(START, reads), ((0, 0, 0, 1, 2),))

    def test_a_deed_that_was_cut(self):
        decides = decided_from(WIDE, (0, 1, PUT_A))
        for count in (0, 1, decides - 1, decides, decides + 3, 10 ** 9):
            for torn in (False, True):
                cut = (("send", 0), ("cut", 0, count, torn))
                done = count >= decides
                self.assertEqual(self.same(START, cut), ((0, 0, 0, 1, None),) if done else ())
                self.assertEqual(self.same(START, cut + SERVED), ((0, 0, 0, 1 if done else 3, 4),))
                read = cut + (("send", 1), ("bring", 0), ("bring", 0))
                rows = ((1, 0, 2, 3, 4),)
                self.assertEqual(self.same(START, read), ((0, 0, 0, 1, None),) + rows if done else rows)
                self.assertEqual(answers_of(after_events(START, read))[1], ((1, 2),) if done else (None,))

    def test_doubled_letters(self):
        # A doubled ask letter is answered twice, a doubled answer was made once.
        events = (("send", 1), ("double", 0), ("bring", 0), ("bring", 0), ("bring", 1))
        self.assertEqual(self.same(START, events), ((1, 0, 0, 3, 4),))
        events = (("send", 1), ("bring", 0), ("double", 0), ("lose", 0), ("send", 0), ("bring", 0))
        self.assertEqual(self.same(START, events), ((1, 0, 0, 1, 5),))
        events = (("send", 1), ("send", 1), ("bring", 0), ("bring", 0), ("double", 0), ("bring", 2))
        self.assertEqual(self.same(START, events), ((1, 0, 0, 2, 5),))
        deed = (("send", 0), ("double", 0), ("bring", 1), ("bring", 0), ("bring", 0), ("bring", 0))
        self.assertEqual(self.same(START, deed), ((0, 0, 0, 2, 4),))

    def test_what_was_ahead_of_the_run(self):
        # Sent, done and made ahead of the run: told as None, or not at all.
        later = after_events(START, (("send", 0), ("send", 1)))
        self.assertEqual(self.same(later, (("bring", 0), ("bring", 1))), ((0, 0, None, 0, 1),))
        self.assertEqual(self.same(later, (("bring", 1), ("bring", 1))), ((1, 0, None, 0, 1),))
        made = after_events(START, (("send", 1), ("bring", 0), ("send", 0), ("bring", 1)))
        self.assertEqual(self.same(made, (("bring", 0), ("bring", 0))), ((1, 0, None, None, 0),))
        self.assertEqual(self.same(made, (("send", 1), ("double", 0), ("bring", 3))), ((1, 0, 0, None, 2),))
        two = (WIDE, (client_of(0, READ_A, READ_B), client_of(0, READ_A)),
               (("told", 0, 1, (5,)), ("told", 1, 0, None), ("told", 0, 0, (6,))))
        events = (("bring", 2), ("bring", 1), ("send", 0), ("bring", 0))
        self.assertEqual(self.same(two, events), ((0, 0, None, None, 0), (1, 0, None, None, 1), (0, 1, 2, None, 3)))
        mixed = events + (("double", 0),)
        self.assertEqual(self.same(two, mixed), ((0, 0, None, None, 0), (1, 0, None, None, 1), (0, 1, 2, None, 3)))

    def test_those_told_before_come_first(self):
        post = (WIDE, (client_of(0, MAKE_A), client_of(0, READ_A)), (("told", 1, 0, (9,)),))
        events = (("send", 0), ("bring", 1), ("bring", 1), ("bring", 0))
        self.assertEqual(self.same(post, events), ((1, 0, None, None, 3), (0, 0, 0, 1, 2)))

        # Also ahead of what was done in the first event of the run.
        post = (WIDE, (client_of(0, MAKE_A), client_of(0, READ_A)), (("ask", 0, 0, 1, MAKE_A), ("told", 1, 0, (9,))))
        self.assertEqual(self.same(post, (("bring", 0), ("bring", 1), ("bring", 0))),
                         ((1, 0, None, None, 2), (0, 0, None, 0, 1)))

    def test_answers_that_come_out_of_order(self):
        # Sent first, done last; the elements ascend by when they were done.
        events = (("send", 0), ("send", 1), ("bring", 1), ("bring", 0), ("bring", 1), ("bring", 0))
        self.assertEqual(self.same(START, events), ((1, 0, 1, 2, 5), (0, 0, 0, 3, 4)))
        self.assertEqual(answers_of(after_events(START, events)), (("done",), (None,)))

    def test_what_cannot_be_done_is_an_event_all_the_same(self):
        idle = (("bring", 9), ("send", 7), ("burn", 9), ("lose", 3), ("mend", 4, True))
        self.assertEqual(self.same(START, idle + SERVED), ((0, 0, 5, 6, 7),))

    def test_a_post_that_is_not_fair(self):
        # The mark is ahead of the script, or behind it: the meaning has what the SEQ tells.
        ahead = after_events(START, SERVED)[0]
        for start in (0, 1, 2, 5):
            post = (ahead, (client_of(start, MAKE_A, DROP_A),), (("ask", 0, 0, 2, DROP_A),))
            self.same(post, (("bring", 0), ("send", 0), ("bring", 1), ("bring", 0), ("bring", 0)))
        burnt = (burn(BURNT), (client_of(0, READ_A, MAKE_A),), (("told", 0, 0, (1,)),))
        self.assertEqual(self.same(burnt, (("bring", 0), ("send", 0), ("bring", 0))), ((0, 0, None, None, 0),))

    def test_runs_against_a_plain_store(self):
        rows = cuts = 0
        for at, (cluster, scripts) in enumerate(((SMALL, SCRIPTS), (WIDE, SCRIPTS[:2]), (LARGE, SCRIPTS),
                                                 (TIGHTER, SCRIPTS[1:]),
                                                 (WIDE, ((PUT_A, PUT_B, READ_A) * 4, (READ_A, DROP_A, READ_B) * 4)))):
            for seed in range(6):
                start = new_post(cluster, scripts)
                events = events_for(Dice(900 * at + seed), 60, len(scripts), len(cluster[2]))
                found = self.same(start, events)
                behind = after_events(start, events)
                plain_store(self, start, behind, found)
                rows += len(found)
                cuts += sum(row[4] is None for row in found)
                self.counts(start, behind, found)
                end = settled(behind)
                self.assertEqual([waits_at(client) for client in end[1]], [None] * len(scripts))
        self.assertGreater(rows, 70)
        self.assertGreater(cuts, 3)

    def counts(self, start, behind, rows):
        """Each deed counts at most once, one that is answered just once, and the deeds of each client in order."""
        for name, client in enumerate(behind[1]):
            deeds = [at for at, wish in enumerate(client[1]) if wish[0] != "read"]
            done = [row[1] for row in rows if row[0] == name and row[1] in deeds]
            self.assertEqual(done, deeds[:len(done)])
            answered = [at for at in deeds if at < len(client[2])]
            self.assertIn(len(done) - len(answered), (0, 1))
            mark = mark_of(meaning(behind[0]), name)
            self.assertEqual(mark[1] if mark else 0, start[1][name][0] + len(done))

    def test_wrong(self):
        for value in ODD + (5, (), POST[:2], list(POST)):
            self.given(InvalidPost, value, record, value, ())
        for value in tuple(value for value in ODD if not isinstance(value, tuple)) + (5, [], (("send", 0),) * 201):
            self.index(InvalidEvents, None, record, POST, value)
        self.index(InvalidEvents, 1, record, POST, (("send", 0), ("send", 8), ()))
        self.index(InvalidEvents, 0, record, POST, ("send", 0))
        self.in_order(record, (("post", POST, POST[:2], InvalidPost, "given"),
                               ("events", (), [], InvalidEvents, None)))
