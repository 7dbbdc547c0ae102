"""Posts: points 55 to 58 and 60 and the heading lettermend/post.py."""

from lettermend.clustererrors import InvalidCluster, InvalidEvent, InvalidEvents, InvalidPost, InvalidScripts, Lost
from lettermend.clusters import contents_of, new_cluster
from lettermend.errors import Full, NotMended
from lettermend.meanings import mark_of
from lettermend.mending import is_mended, mended_cluster, steps_to_mend
from lettermend.post import after_event, after_events, answers_of, is_post, new_post, settled
from lettermend.reading import meaning
from lettermend.requests import decided_from, request_steps
from lettermend.surveys import spare
from lettermend.wishes import seq_at, waits_at
from tests.harming import Dice, burn, full_one, hide_root, litter, narrow_one, renew
from tests.making import FOUR, SIX, WIDEST, with_block
from tests.posting import (DROP_A, LARGE, MAKE_A, MAKE_B, PUT_A, PUT_B, READ_A, READ_B, SCRIPTS, SMALL, TIGHTER, WIDE,
                           events_for, slow_event)
from tests.support import ODD, Told
from tests.test_clusters import BURNT, NEW, NO_CLUSTERS
from tests.test_histories import WRONG_COUNTS, WRONG_TORN
from tests.test_packing import MOST
from tests.test_reading import FILES
from tests.test_requests import with_marks
from tests.test_wishes import CLIENT, NO_WISHES, WISHES

POST = new_post(SMALL, SCRIPTS)
START = new_post(WIDE, ((MAKE_A, READ_A), (PUT_B, READ_B)))
GREAT = new_cluster(WIDEST, 10, tuple(range(10)), 20)


def client_of(start, *script):
    """A client's state that has no answers."""
    return start, script, ()


class Kinds(Told):

    def test_right_ones(self):
        ask, told = ("ask", 1, 11, MOST, MAKE_A), ("told", 0, 0, "down")
        for post in (POST, (SMALL, POST[1], (ask, told) * 30), (BURNT, POST[1][:2], (told,)),
                     (GREAT, (client_of(0, *WISHES[:12]), client_of(0, *WISHES[-12:])) * 4, ()), (SMALL, (client_of(10 ** 300),), ()),
                     (SMALL, (client_of(MOST, READ_A, READ_B),), ()), (SMALL, (client_of(MOST - 2, PUT_A, READ_A, PUT_A),), ()),
                     (SMALL, (client_of(MOST - 1, PUT_A, READ_A),), ()), (full_one()[0], POST[1], ()),
                     (SMALL, ((0, (READ_A,), ((96, 95),)),), (("told", 0, 3, (96,)),))):
            self.assertIs(is_post(post), True, post[1:])
            self.assertEqual(answers_of(post), tuple(client[2] for client in post[1]))
        self.assertIs(self.by_name(is_post, value=POST), True)
        self.assertEqual(self.by_name(answers_of, post=POST), ((), (), ()))

    def wrong(self):
        """What is no post."""
        state = POST[1][0]
        wrong = list(ODD) + [5, (), POST[:2], POST + (1,), list(POST), (SMALL, (), ()), (SMALL, [state], ()),
                             (SMALL, (state,) * 9, ()), (SMALL, state, ()), (SMALL, (state,), []),
                             (SMALL, (state,), (("told", 0, 0, "done"),) * 61), (SMALL, (state,), ("told", 0, 0, "done"))]
        wrong += [(value,) + POST[1:] for value in NO_CLUSTERS]
        wrong += [(SMALL, (state, value), ()) for value in ODD + (CLIENT[:2], CLIENT)]
        wrong += [(SMALL, value, ()) for value in ODD] + [(SMALL, (state,), value) for value in ODD]
        wrong += [(SMALL, (state,), (value,)) for value in ODD + (("told", 1, 0, "done"), ("ask", 1, 0, 1, MAKE_A),
                                                                  ("ask", 0, 12, 1, MAKE_A), ("ask", 0, 0, 0, MAKE_A))]
        for wish in (("put", ("a",), (31,)), ("put", ("a",), (0, 96)), ("join", 4), ("leave", 9)):
            wrong += [(SMALL, (client_of(0, READ_A, wish),), ()), (SMALL, (state,), (("ask", 0, 0, 1, wish),)),
                      (SMALL, (state, (0, (wish,), ("done",))), ())]
        for script in ((PUT_A,), (READ_A, PUT_A), (PUT_A, READ_A)):
            wrong.append((SMALL, (state, client_of(MOST, *script)), ()))
        wrong += [(SMALL, (client_of(MOST - 1, PUT_A, READ_A, PUT_A),), ()), (SMALL, (client_of(MOST + 1, READ_A),), ())]
        return wrong

    def test_wrong_ones(self):
        for value in self.wrong():
            self.assertIs(is_post(value), False, value)
            self.given(InvalidPost, value, after_event, value, ("send", 0))
            self.given(InvalidPost, value, after_events, value, ())
            self.given(InvalidPost, value, settled, value)
            self.given(InvalidPost, value, answers_of, value)

    def test_no_events(self):
        wrong = list(ODD) + [5, (), ("send",), ("send", 0, 0), ("send", 8), ("send", -1), ["send", 0], "send", ("Send", 0),
                             ("double",), ("double", -1), ("double", 0, 0), ("lose", -1), ("lose",), ("bring",),
                             ("bring", 0, 1), ("bring", -1), ("cut", 0), ("cut", 0, 1), ("cut", 0, 1, True, 1),
                             ("cut", -1, 1, True), ("mend",), ("mend", 1), ("mend", 1, True, 1), ("burn",), ("burn", 10),
                             ("burn", -1), ("burn", 0, 0), ("new",), ("new", 10), ("new", 0, 1), ("renew", 0),
                             ("request", (0, 1, MAKE_A)), ("rot", 0, 1, (0, 0, 0)), ("", 0)]
        for word in ("send", "double", "lose", "bring", "burn", "new"):
            wrong += [(word, value) for value in ODD]
        wrong += [(value, 0) for value in ODD] + [(value,) for value in ODD]
        wrong += [("cut", value, 1, True) for value in ODD] + [("cut", 0, value, True) for value in WRONG_COUNTS]
        wrong += [("cut", 0, 1, value) for value in WRONG_TORN] + [("mend", value, True) for value in WRONG_COUNTS]
        wrong += [("mend", 1, value) for value in WRONG_TORN]
        for value in wrong:
            self.given(InvalidEvent, value, after_event, POST, value)
            for rows, index in (((value,), 0), ((("send", 0), value, value), 1)):
                self.index(InvalidEvents, index, after_events, POST, rows)
        one = ("lose", 10 ** 300)
        for value in tuple(value for value in ODD if not isinstance(value, tuple)) + (5, [one], (one,) * 201, [],
                                                                                      (one,) * 4000, {one: 1}):
            self.index(InvalidEvents, None, after_events, POST, value)
        self.index(InvalidEvents, 199, after_events, POST, (one,) * 199 + (("lose",),))
        self.index(InvalidEvents, 0, after_events, POST, one)
        self.assertEqual(after_events(POST, (one,) * 200), POST)
        self.assertEqual(after_events(POST, ()), POST)
        self.in_order(after_event, (("post", POST, POST[:2], InvalidPost, "given"),
                                    ("event", one, ("lose",), InvalidEvent, "given")))
        self.in_order(after_events, (("post", POST, POST[:2], InvalidPost, "given"),
                                     ("events", (one,), [one], InvalidEvents, None)))


class New(Told):

    def test_starts(self):
        self.assertEqual(POST, (SMALL, tuple((0, script, ()) for script in SCRIPTS), ()))
        marked = with_marks(((1, 7, "taken"), (3, MOST - 1, "done"), (7, 2, "unused")))
        for many in range(1, 9):
            post = new_post(marked, ((MAKE_A,),) * many)
            self.assertEqual([client[0] for client in post[1]], [0, 7, 0, MOST - 1, 0, 0, 0, 2][:many])
            self.assertIs(is_post(post), True)
        self.assertEqual(self.by_name(new_post, cluster=marked, scripts=((), (READ_A,))),
                         (marked, ((0, (), ()), (7, (READ_A,), ())), ()))

    def test_no_scripts(self):
        wrong = list(ODD) + [5, (), [(MAKE_A,)], ((MAKE_A,),) * 9, (MAKE_A,), ([MAKE_A],), ((MAKE_A,) * 13,), MAKE_A,
                             ((), [MAKE_A]), (("put", ("a",), (31,)),), ((("put", ("a",), (31,)),),), ((("join", 4),),),
                             ((MAKE_A,), (READ_A, ("leave", 4))), ((MAKE_A,), ((("put", ("a",), (1, 31))),))]
        wrong += [((MAKE_A,), (READ_A, wish)) for wish in NO_WISHES] + [(value,) for value in ODD]
        for value in wrong:
            self.given(InvalidScripts, value, new_post, SMALL, value)
            self.given(InvalidScripts, value, new_post, BURNT, value)
        self.assertIs(is_post(new_post(SMALL, ((MAKE_A,) * 12,) * 8)), True)

    def test_a_seq_above_is_told_last(self):
        for left in (0, 1, 2):
            marked = with_marks(((1, MOST - left, "done"),))
            for script in ((), (READ_A,), (MAKE_A,), (MAKE_A, READ_A, MAKE_B), (MAKE_A, MAKE_B, DROP_A, READ_A)):
                deeds = sum(wish[0] != "read" for wish in script)
                scripts = ((MAKE_A,), script)
                if deeds > left:
                    self.given(InvalidScripts, scripts, new_post, marked, scripts)
                    lame = hide_root(marked, 1, ())
                    self.like(NotMended, steps_to_mend(lame)[0], new_post, lame, scripts)
                else:
                    self.assertIs(is_post(new_post(marked, scripts)), True)

    def test_errors(self):
        for value in NO_CLUSTERS:
            self.given(InvalidCluster, value, new_post, value, SCRIPTS)
        self.in_order(new_post, (("cluster", SMALL, SMALL[:2], InvalidCluster, "given"),
                                 ("scripts", SCRIPTS, (), InvalidScripts, "given")))
        self.like(Lost, None, new_post, BURNT, SCRIPTS)
        self.like(Lost, None, new_post, burn(SMALL, 0, 1), SCRIPTS)
        self.like(Full, full_one()[1], new_post, full_one()[0], SCRIPTS)
        for lame in (litter(SMALL, 2, 1), hide_root(SMALL, 0, ()), with_block(SMALL, 3, 0, None),
                     renew(burn(SMALL, 1), 1)):
            self.like(NotMended, steps_to_mend(lame)[0], new_post, lame, SCRIPTS)
        self.assertIs(is_post(new_post(burn(SMALL, 2), SCRIPTS)), True)


class Events(Told):

    def same(self, post, event):
        """The event does what the words tell; what it leaves is a post, and is told."""
        found = after_event(post, event)
        self.assertEqual(found, slow_event(post, event)[0], event)
        self.assertIs(is_post(found), True)
        return found

    def test_send(self):
        post = self.same(self.same(START, ("send", 1)), ("send", 1))
        self.assertEqual(post[2], (("ask", 1, 0, 1, PUT_B),) * 2)
        self.assertEqual(self.same(post, ("send", 2)), post)
        self.assertEqual(self.same(post, ("send", 7)), post)
        through = (WIDE, ((0, (MAKE_A,), ("done",)), (4, (READ_A, MAKE_A), ()), (0, (), ())), ())
        self.assertEqual(self.same(through, ("send", 0)), through)
        self.assertEqual(self.same(through, ("send", 2)), through)
        self.assertEqual(self.same(through, ("send", 1))[2], (("ask", 1, 0, 4, READ_A),))

    def test_sixty_letters(self):
        letters = (("told", 0, 3, "done"),) * 59
        post = self.same((WIDE, START[1], letters), ("send", 0))
        self.assertEqual(post[2], letters + (("ask", 0, 0, 1, MAKE_A),))
        for event in (("send", 0), ("send", 1), ("double", 0), ("double", 59)):
            self.assertEqual(self.same(post, event), post)
        for event in (("lose", 3), ("bring", 0), ("bring", 59), ("cut", 2, 0, True)):
            self.assertNotEqual(self.same(post, event), post)
        self.assertEqual(self.same((WIDE, START[1], letters), ("double", 4))[2], letters + letters[:1])

    def test_letters_that_are_not_there(self):
        for post in (START, after_event(START, ("send", 0))):
            many = len(post[2])
            for index in (many, many + 1, 60, 10 ** 300):
                for event in (("double", index), ("lose", index), ("bring", index), ("cut", index, 3, True)):
                    self.assertEqual(self.same(post, event), post)

    def test_double_and_lose(self):
        post = after_events(START, (("send", 0), ("send", 1)))
        first, second = post[2]
        self.assertEqual(self.same(post, ("double", 0))[2], (first, second, first))
        self.assertEqual(self.same(post, ("double", 1))[2], (first, second, second))
        self.assertEqual(self.same(post, ("lose", 0))[2], (second,))
        self.assertEqual(self.same(post, ("lose", 1))[2], (first,))

    def test_bring(self):
        post = after_events(START, (("send", 0), ("send", 1)))
        brought = self.same(post, ("bring", 0))
        self.assertEqual(brought[2], (post[2][1], ("told", 0, 0, "done")))
        self.assertEqual(meaning(brought[0])[2:], (((0, 1, "done"),), (("a", ("room", ())),)))
        taken = self.same(brought, ("bring", 1))
        self.assertEqual((taken[1][0][2], taken[2]), (("done",), (post[2][1],)))
        # What is shown again is not taken, and neither is an answer of another kind.
        again = self.same(self.same(brought, ("double", 1)), ("bring", 1))
        self.assertEqual(self.same(again, ("bring", 1))[1], again[1])
        for answer in ("down", "full", "old", "early", None, (1,)):
            for letter in (("told", 0, 0, answer), ("told", 1, 0, answer)):
                odd = (WIDE, START[1], (letter,))
                self.assertEqual(self.same(odd, ("bring", 0)), (WIDE, START[1], ()))
        for at in (1, 5, 11):
            self.assertEqual(self.same((WIDE, START[1], (("told", 0, at, "done"),)), ("bring", 0))[1], START[1])

    def test_reads(self):
        post = new_post(FILES, ((READ_A, ("read", ("a", "b")), ("read", ("d",)), ("read", ("q",)), ("read", ("e",))),))
        for _ in range(5):
            post = self.same(self.same(self.same(post, ("send", 0)), ("bring", 0)), ("bring", 0))
        view = dict(meaning(FILES)[3])
        self.assertEqual(answers_of(post), ((None, dict(view["a"][1])["b"][1], (), None, view["e"][1]),))
        self.assertEqual(post[0], FILES)
        # A read mends the cluster whole, and does nothing else.
        lame = litter(hide_root(FILES, 2, ()), 3, 2)
        post = (lame, ((0, (READ_A,), ()),), (("ask", 0, 0, 0, READ_A),))
        self.assertEqual(self.same(post, ("bring", 0))[0], mended_cluster(lame))

    def test_an_answer_to_a_deed_mends_first(self):
        lame = litter(hide_root(WIDE, 2, ()), 3, 2)
        for wish, seq, reply in ((MAKE_A, 1, "done"), (MAKE_A, 2, "early"), (DROP_A, 1, "no such")):
            post = (lame, START[1], (("ask", 0, 0, seq, wish),))
            brought = self.same(post, ("bring", 0))
            self.assertEqual(brought[2], (("told", 0, 0, reply),))
            self.assertIs(is_mended(brought[0]), True)

    def test_cut(self):
        post = after_event(START, ("send", 1))
        request = (1, 1, PUT_B)
        steps, decides = request_steps(WIDE, request)[1], decided_from(WIDE, request)
        for count in (0, 1, decides - 1, decides, decides + 1, len(steps), 10 ** 300):
            for torn in (False, True):
                cut = self.same(post, ("cut", 0, count, torn))
                self.assertEqual(cut[2], ())
                self.assertEqual(mark_of(meaning(cut[0]), 1) is not None, count >= decides)
        # What asks for no deed is taken out, and the cluster stays as it is.
        lame = litter(WIDE, 3, 2)
        for letter in (("told", 0, 0, "done"), ("ask", 1, 1, 1, READ_B)):
            self.assertEqual(self.same((lame, START[1], (letter,)), ("cut", 0, 5, True)), (lame, START[1], ()))
        # A deed that is not tried has no steps, but the store mends the cluster.
        for seq in (2, 3):
            post = (lame, START[1], (("ask", 0, 0, seq, MAKE_A),))
            self.assertEqual(self.same(post, ("cut", 0, 0, False))[0], mended_cluster(lame))

    def test_a_cluster_that_cannot_be_mended(self):
        told = ("told", 0, 0, "done")
        for cluster in (BURNT[:1] + (4, BURNT[2]), burn(SMALL, 0, 1), full_one()[0]):
            letters = (("ask", 0, 0, 1, MAKE_A), ("ask", 0, 1, 1, READ_A), told)
            post = (cluster, (client_of(0, MAKE_A, READ_A),), letters)
            for event in (("bring", 0), ("bring", 1), ("cut", 0, 9, True), ("cut", 1, 0, False), ("mend", 0, True),
                          ("mend", 10 ** 9, False)):
                self.assertEqual(self.same(post, event), post)
            for event in (("bring", 2), ("cut", 2, 1, True), ("lose", 0), ("double", 1), ("send", 0)):
                self.assertNotEqual(self.same(post, event), post)

    def test_mend(self):
        lame = litter(hide_root(WIDE, 2, ()), 3, 2)
        steps = steps_to_mend(lame)
        for count in list(range(len(steps) + 1)) + [10 ** 300]:
            for torn in (False, True):
                self.same((lame, START[1], ()), ("mend", count, torn))
        self.assertEqual(self.same((lame, START[1], ()), ("mend", len(steps), True))[0], mended_cluster(lame))
        self.assertEqual(self.same(START, ("mend", 0, True)), START)

    def test_burn_and_new(self):
        post = self.same(START, ("burn", 2))
        self.assertEqual(post[0], burn(WIDE, 2))
        self.assertEqual(self.same(post, ("burn", 2)), post)
        self.assertEqual(self.same(post, ("new", 1)), post)
        self.assertEqual(self.same(post, ("new", 2))[0], renew(burn(WIDE, 2), 2))
        for event in (("burn", 6), ("burn", 9), ("new", 6), ("new", 9)):
            self.assertEqual(self.same(START, event), START)
        two = self.same(post, ("burn", 0))
        self.assertEqual(spare(two[0]), 0)
        for shelf in range(6):
            self.assertEqual(self.same(two, ("burn", shelf)), two)
        for cluster in (BURNT, burn(SMALL, 0, 1)):
            post = (cluster, (client_of(0, MAKE_A),), ())
            for shelf in range(4):
                self.assertEqual(self.same(post, ("burn", shelf)), post)
        self.assertEqual(self.same((BURNT, (client_of(0),), ()), ("new", 3))[0][2][3], ((),) * 11)
        # One root alone is not spared, a shelf that holds nothing is.
        one = (hide_root(hide_root(SMALL, 1, ()), 2, ()), POST[1], ())
        one = (hide_root(one[0], 3, ()),) + one[1:]
        self.assertEqual(self.same(one, ("burn", 3)), one)
        self.assertEqual(self.same(START, ("burn", 5))[0], burn(WIDE, 5))

    def test_rows(self):
        kinds = {}
        for at, (cluster, scripts) in enumerate(((SMALL, SCRIPTS), (WIDE, SCRIPTS[:2]), (LARGE, SCRIPTS),
                                                 (TIGHTER, SCRIPTS[1:]))):
            for seed in range(8):
                dice = Dice(50 * at + seed)
                start = new_post(cluster, scripts)
                events = events_for(dice, 45, len(scripts) + 1, min(10, len(cluster[2]) + 1))
                post = start
                for event in events:
                    ahead, post = post, self.same(post, event)
                    kinds[event[0]] = kinds.get(event[0], 0) + (post != ahead)
                    self.fair(post)
                self.assertEqual(self.by_name(after_events, post=start, events=events), post)
        self.assertGreater(min(kinds.values()), 10)
        self.assertEqual(self.by_name(after_event, post=START, event=("send", 0))[2], (("ask", 0, 0, 1, MAKE_A),))

    def fair(self, post):
        """What point 58 tells of a fair post."""
        meant = meaning(post[0])
        for name, (start, script, answers) in enumerate(post[1]):
            answered = sum(wish[0] != "read" for wish, _ in zip(script, answers))
            mark = mark_of(meant, name)
            more = (mark[1] - start if mark else 0) - answered
            waits = waits_at((start, script, answers))
            self.assertIn(more, (0, 1))
            if more:
                self.assertNotEqual(script[waits][0], "read")
            for letter in post[2]:
                self.assertNotEqual(letter[3], "early")
                if letter[0] == "ask" and letter[1] == name and letter[4][0] != "read":
                    self.assertLessEqual(letter[3], start + answered + 1)
                    self.assertEqual(letter[3], seq_at((start, script, answers), letter[2]))


class Settled(Told):

    def test_all_through(self):
        for at, cluster in enumerate((SMALL, WIDE, LARGE)):
            for seed in range(5):
                events = events_for(Dice(30 * at + seed), 50, 3, len(cluster[2]))
                post = after_events(new_post(cluster, SCRIPTS), events)
                end = settled(post)
                self.assertIs(is_post(end), True)
                self.assertEqual(end[2], ())
                self.assertNotIn(None, end[0][2])
                self.assertIs(is_mended(end[0]), True)
                for name, client in enumerate(end[1]):
                    self.assertIsNone(waits_at(client))
                    self.assertEqual(client[2][:len(post[1][name][2])], post[1][name][2])
                    deeds = sum(wish[0] != "read" for wish in client[1])
                    self.assertEqual(mark_of(meaning(end[0]), name)[1], client[0] + deeds)
                self.assertEqual(settled(end), end)
        self.assertEqual(self.by_name(settled, post=START), settled(START))

    def test_clients_in_their_order(self):
        post = new_post(WIDE, ((PUT_A, READ_B), (DROP_A, READ_A, MAKE_B), (READ_B, MAKE_A)))
        self.assertEqual(answers_of(settled(post)), (("done", None), ("done", None, "done"), (None, "done")))
        # A deed that counted, whose answer was lost, is told and not done again; letters are lost.
        post = after_events(post, (("send", 1), ("bring", 0), ("send", 0), ("double", 1), ("burn", 2)))
        self.assertEqual(answers_of(settled(post)), (("done", None), ("no such", (1, 2), "done"), (None, "taken")))

    def test_a_full_on_the_way(self):
        # The first put finds room, and the second one not; whoever waits for it is left, and the others follow.
        for homes in range(8, 16):
            cluster = new_cluster(FOUR, 4, (0, 1, 2, 3), homes)
            big = ("put", ("b",), tuple(range(30)))
            post = new_post(cluster, ((MAKE_A, big, READ_B, MAKE_B), (READ_A, DROP_A, READ_B)))
            end = settled(post)
            reply = request_steps(new_cluster(FOUR, 4, (0, 1, 2, 3), homes), (0, 1, MAKE_A))[0]
            if reply == "full":
                self.assertEqual(end[1][0][2], ())
            else:
                self.assertEqual(end[1][0][2][0], "done")
            for client in end[1]:
                at = waits_at(client)
                if at is not None:
                    wish = client[1][at]
                    self.assertNotEqual(wish[0], "read")
                    self.assertEqual(request_steps(end[0], (end[1].index(client), seq_at(client, at), wish))[0], "full")
            self.assertEqual(end[2], ())
        self.assertEqual(answers_of(settled(new_post(new_cluster(FOUR, 4, (0, 1, 2, 3), 15),
                                                     ((MAKE_A, ("put", ("b",), tuple(range(30))), READ_A),
                                                      (READ_A, READ_B))))), (("done",), (None, None)))

    def test_a_client_that_is_left(self):
        # Not fair posts: an answer that is no outcome is not taken, and its client is left at once.
        marked = with_marks(((0, 5, "done"),))
        for start, answers in ((0, ()), (3, ()), (4, ("done",)), (5, ("done", (1, 2))), (6, ())):
            end = settled((marked, ((start, (PUT_A, READ_A), ()), (0, (MAKE_B,), ())), (("told", 0, 0, "used"),)))
            self.assertEqual(answers_of(end)[0][:1], answers[:1])
            self.assertEqual(answers_of(end)[1], ("done",))
            self.assertEqual(end[2], ())

    def test_errors(self):
        for cluster in (BURNT, burn(SMALL, 0, 1), burn(NEW, 0, 1, 2)):
            self.like(Lost, None, settled, (cluster, POST[1], ()))
        self.like(Full, full_one()[1], settled, (full_one()[0], POST[1], ()))
        tight = new_cluster(SIX, 5, (0, 1, 2, 3, 4), 3)
        self.assertEqual(answers_of(settled((burn(tight, 2), (client_of(0, READ_A),), ()))), ((None,),))
        self.assertEqual(contents_of(settled((burn(tight, 2), (client_of(0),), ()))[0]), contents_of(tight))
        # Full as the mending tells behind the renewing: a burnt shelf in use is too small for its chunks.
        narrow, chunk = narrow_one()
        self.assertIs(is_mended(narrow), True)
        self.like(Full, chunk, settled, (narrow, (client_of(0),), ()))
        post = after_event((narrow, (client_of(0, READ_A),), (("ask", 0, 0, 0, READ_A),)), ("new", 9))
        self.assertIs(is_mended(post[0]), False)
        self.assertIsNotNone(meaning(post[0]))
        for event in (("bring", 0), ("cut", 0, 3, True), ("mend", 3, True)):
            self.assertEqual(after_event(post, event), post)
