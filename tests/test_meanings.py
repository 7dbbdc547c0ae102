"""Meanings and requests: points 32 and 33 and the heading lettermend/meanings.py."""

from lettermend.clustererrors import InvalidClient, InvalidRequest, InvalidRequests
from lettermend.errors import InvalidMeaning, InvalidWidth
from lettermend.meanings import answer, answers, is_meaning, is_request, mark_of
from lettermend.trees import tree_deed
from tests.support import ODD, Told
from tests.test_packing import MARKS, MOST, OUTCOMES
from tests.test_placement import WRONG_LOTS
from tests.test_trees import EMPTY, FILE, SMALL, VIEWS, chain, deeds_for, wide

START = (1, (0, 1, 2, 3), (), ())
LATER = (17, (1, 4, 6), ((2, 5, "taken"), (4, 1, "done"), (7, MOST, "unused")), SMALL)
MEANINGS = (START, LATER, (10 ** 300, tuple(range(10)), MARKS, wide(40)), (2, (9,), (), chain(6, FILE)))
MAKE = ("make", ("x",))
ROOT_DEEDS = tuple((word, shelf) for word in ("join", "leave") for shelf in range(10))


def slow_tried(meaning, width, deed):
    """The outcome of a deed, and the shelves in use and the view behind it, by the words of points 30 and 32."""
    used, view = meaning[1], meaning[3]
    if deed[0] == "join":
        outcome = "used" if deed[1] in used else "done"
        return outcome, tuple(sorted({*used, deed[1]})), view
    if deed[0] == "leave":
        outcome = "unused" if deed[1] not in used else "too few" if len(used) == width else "done"
        return outcome, tuple(shelf for shelf in used if outcome != "done" or shelf != deed[1]), view
    outcome, view = tree_deed(view, deed)
    return outcome, used, view


def slow_answer(meaning, width, request):
    """The answer by the words of point 33."""
    client, seq, deed = request
    marks = {mark[0]: mark for mark in meaning[2]}
    done = marks[client][1] if client in marks else 0
    if seq < done:
        return "old", meaning
    if seq == done:
        return marks[client][2], meaning
    if seq > done + 1:
        return "early", meaning
    outcome, used, view = slow_tried(meaning, width, deed)
    marks[client] = (client, seq, outcome)
    return outcome, (meaning[0] + 1, used, tuple(marks[number] for number in sorted(marks)), view)


class Kinds(Told):

    def test_meanings(self):
        for value in MEANINGS:
            self.assertIs(is_meaning(value), True)
        for view in VIEWS:
            self.assertIs(is_meaning((1, (0,), (), view)), True)
        self.assertIs(self.by_name(is_meaning, value=START), True)
        wrong = list(ODD) + [5, (), START[:3], START + (1,), list(START), (0,) + START[1:], (-1,) + START[1:]]
        wrong += [(value,) + START[1:] for value in ODD] + [(1, value, (), ()) for value in WRONG_LOTS]
        wrong += [(1, (0,), marks, ()) for marks in ODD + (((8, 1, "done"),), ((0, 0, "done"),), [(0, 1, "done")],
                                                           ((0, MOST + 1, "done"),), ((0, 1, "down"),), ((0, 1),),
                                                           ((1, 1, "done"), (0, 1, "done")),
                                                           ((0, 1, "done"), (0, 2, "done")), (0, 1, "done"))]
        wrong += [(1, (0,), (), view) for view in ODD + (5, (("a", ("file", 0, ())),), chain(7, EMPTY), wide(41),
                                                         (("b", FILE), ("a", FILE)), (("a", ("file", (97,))),))]
        for value in wrong:
            self.assertIs(is_meaning(value), False, value)
            self.given(InvalidMeaning, value, mark_of, value, 0)
            self.given(InvalidMeaning, value, answer, value, 1, (0, 1, MAKE))
            self.given(InvalidMeaning, value, answers, value, 1, ())

    def test_requests(self):
        deeds = deeds_for((("a",), ("b",) * 6)) + list(ROOT_DEEDS)
        for deed in deeds:
            for client, seq in ((0, 1), (7, MOST), (3, 12)):
                self.assertIs(is_request((client, seq, deed)), True)
        self.assertIs(self.by_name(is_request, value=(0, 1, MAKE)), True)
        wrong = list(ODD) + [5, (), (0, 1), (0, 1, MAKE, 1), [0, 1, MAKE], (8, 1, MAKE), (-1, 1, MAKE), (0, 0, MAKE),
                             (0, -1, MAKE), (0, MOST + 1, MAKE), MAKE]
        wrong += [(value, 1, MAKE) for value in ODD] + [(0, value, MAKE) for value in ODD]
        wrong += [(0, 1, deed) for deed in ODD + (5, (), ("join",), ("join", 10), ("join", -1), ("leave", 10),
                                                  ("leave",),
                                                  ("join", 1, 1), ["join", 1], ("join", ("a",)), ("Join", 1), ("", 1),
                                                  ("make", 1), ("make", ()), ("remove", 1), ("put", ("a",)),
                                                  ("put", ("a",), (97,)), ("read", ("a",)), ("copy", ("a",)))]
        wrong += [(0, 1, (word, value)) for word in ("join", "leave") for value in ODD]
        wrong += [(0, 1, (value, 1)) for value in ODD]
        for value in wrong:
            self.assertIs(is_request(value), False, value)
            self.given(InvalidRequest, value, answer, START, 4, value)
            for rows, index in (((value,), 0), (((0, 1, MAKE), value, value), 1)):
                self.index(InvalidRequests, index, answers, START, 4, rows)


class Marks(Told):

    def test_mark_of(self):
        for meaning in MEANINGS:
            for client in range(8):
                found = [mark for mark in meaning[2] if mark[0] == client]
                self.assertEqual(mark_of(meaning, client), found[0] if found else None)
        self.assertEqual(self.by_name(mark_of, meaning=LATER, client=4), (4, 1, "done"))

    def test_wrong(self):
        for value in ODD + (-1, 8, 10 ** 30):
            self.given(InvalidClient, value, mark_of, LATER, value)
        self.in_order(mark_of, (("meaning", START, START[:3], InvalidMeaning, "given"),
                                ("client", 0, 8, InvalidClient, "given")))


class Answers(Told):

    def same(self, meaning, width, request):
        """The answer is what the words tell; the meaning behind is told."""
        found = answer(meaning, width, request)
        self.assertEqual(found, slow_answer(meaning, width, request), request)
        self.assertIs(is_meaning(found[1]), True)
        return found[1]

    def test_by_words(self):
        deeds = deeds_for((("a",), ("x",), ("a", "b"), ("a", "x"), ("b", "a"))) + list(ROOT_DEEDS)
        for meaning in MEANINGS:
            for client in range(8):
                done = (mark_of(meaning, client) or (0, 0))[1]
                for seq in {1, done - 1, done, done + 1, done + 2, done + 3, MOST}:
                    if 1 <= seq <= MOST:
                        for deed in deeds if seq == done + 1 and client < 3 else deeds[::9]:
                            for width in {1, len(meaning[1])}:
                                self.same(meaning, width, (client, seq, deed))

    def test_join_and_leave(self):
        for shelf in range(10):
            for width in (1, 2, 3):
                joined = (18, tuple(sorted({1, 4, 6, shelf})))
                found = answer(LATER, width, (0, 1, ("join", shelf)))
                outcome = "used" if shelf in (1, 4, 6) else "done"
                self.assertEqual(found, (outcome, joined + (((0, 1, outcome),) + LATER[2], SMALL)))
                outcome = "unused" if shelf not in (1, 4, 6) else "too few" if width == 3 else "done"
                left = tuple(used for used in (1, 4, 6) if outcome != "done" or used != shelf)
                found = answer(LATER, width, (0, 1, ("leave", shelf)))
                self.assertEqual(found, (outcome, (18, left, ((0, 1, outcome),) + LATER[2], SMALL)))
        self.assertEqual(answer(LATER, 3, (0, 1, ("leave", 0)))[0], "unused")
        self.assertEqual(answer(MEANINGS[3], 1, (0, 1, ("leave", 9)))[0], "too few")

    def test_old_early_and_marked(self):
        put = ("put", ("a",), (1,))
        for deed in (MAKE, put, ("join", 9), ("leave", 9)):
            for seq in (1, 4):
                self.assertEqual(answer(LATER, 3, (2, seq, deed)), ("old", LATER))
            self.assertEqual(answer(LATER, 3, (2, 5, deed)), ("taken", LATER))
            for seq in (7, 8, MOST):
                self.assertEqual(answer(LATER, 3, (2, seq, deed)), ("early", LATER))
            self.assertEqual(answer(LATER, 3, (7, MOST, deed)), ("unused", LATER))
            self.assertEqual(answer(LATER, 3, (7, MOST - 1, deed)), ("old", LATER))
            self.assertEqual(answer(LATER, 3, (0, 2, deed)), ("early", LATER))
            self.assertNotEqual(answer(LATER, 3, (0, 1, deed))[1], LATER)
        near = (3, (0,), ((5, MOST - 1, "done"),), ())
        self.assertEqual(answer(near, 1, (5, MOST, MAKE)), ("done", (4, (0,), ((5, MOST, "done"),), (("x", EMPTY),))))
        for outcome in OUTCOMES:
            marked = (3, (0,), ((5, 2, outcome),), ())
            self.assertEqual(answer(marked, 1, (5, 2, MAKE)), (outcome, marked))

    def test_version_and_mark_also_where_nothing_is_done(self):
        seen = set()
        full = (5, (0, 1, 2), ((1, 3, "done"),), wide(40))
        for meaning, deed in ((LATER, ("make", ("x", "y"))), (LATER, ("make", ("a",))), (LATER, ("remove", ("x",))),
                              (LATER, ("copy", ("a",), ("a", "x"))), (full, MAKE), (full, ("put", ("x",), ())),
                              ((1, (0,), (), chain(6, FILE)), ("copy", ("a", "a"), ("a", "a", "a", "a", "x"))),
                              (LATER, ("join", 4)), (LATER, ("leave", 4)), (LATER, ("leave", 5)), (LATER, MAKE),
                              ((1, (0,), (), chain(5, FILE)), ("move", ("a", "a", "a"), ("a", "a", "x")))):
            width = len(meaning[1])
            outcome, behind = answer(meaning, width, (3, 1, deed))
            seen.add(outcome)
            self.assertEqual(behind[0], meaning[0] + 1)
            self.assertEqual(mark_of(behind, 3), (3, 1, outcome))
            self.assertEqual([mark for mark in behind[2] if mark[0] != 3], list(meaning[2]))
            if outcome != "done":
                self.assertEqual((behind[1], behind[3]), (meaning[1], meaning[3]))
        self.assertEqual(seen, set(OUTCOMES) - {"too deep"})
        deep = (1, (0,), (), chain(5, FILE) + (("b", ("room", (("c", ("room", ())),))),))
        self.assertEqual(answer(deep, 1, (3, 1, ("move", ("a",), ("b", "c", "a")))),
                         ("too deep", (2, (0,), ((3, 1, "too deep"),), deep[3])))

    def test_asked_once_more(self):
        meaning, told = LATER, []
        for seq, deed in enumerate((MAKE, MAKE, ("leave", 4), ("leave", 1), ("put", ("x", "y"), (3,))), start=6):
            outcome, meaning = answer(meaning, 2, (2, seq, deed))
            told.append(outcome)
            for other in (deed, MAKE, ("remove", ("a",)), ("join", 0)):
                self.assertEqual(answer(meaning, 2, (2, seq, other)), (outcome, meaning))
                self.assertEqual(answer(meaning, 2, (2, seq - 1, other)), ("old", meaning))
        self.assertEqual(told, ["done", "taken", "done", "too few", "done"])

    def test_rows(self):
        deeds = deeds_for((("a",), ("b",), ("a", "b"))) + list(ROOT_DEEDS)
        for start in range(40):
            requests, at = [], start * 77
            for step in range(60):
                at = (at * 1103 + 12345 + step) % 1000003
                requests.append((at % 3, 1 + (step // 3 + at // 3 % 3) % 25, deeds[at // 9 % len(deeds)]))
            for meaning, width in ((START, 3), (START, 4), (LATER, 2)):
                told, behind = [], meaning
                for request in requests:
                    reply, behind = slow_answer(behind, width, request)
                    told.append(reply)
                self.assertEqual(answers(meaning, width, tuple(requests)), (tuple(told), behind))
        self.assertEqual(answers(START, 4, ()), ((), START))
        self.assertEqual(self.by_name(answers, meaning=START, width=4, requests=((0, 1, ("join", 4)), (0, 1, MAKE))),
                         (("done", "done"), (2, (0, 1, 2, 3, 4), ((0, 1, "done"),), ())))
        self.assertEqual(self.by_name(answer, meaning=START, width=4, request=(0, 2, MAKE)), ("early", START))


class Wrong(Told):

    def test_width(self):
        for meaning in MEANINGS:
            for value in ODD + (0, -1, len(meaning[1]) + 1, 11, 10 ** 30):
                self.given(InvalidWidth, value, answer, meaning, value, (0, 1, MAKE))
                self.given(InvalidWidth, value, answers, meaning, value, ())

    def test_rows(self):
        one = (0, 1, MAKE)
        for value in tuple(value for value in ODD if not isinstance(value, tuple)) + (5, [one], (one,) * 61, [],
                                                                                      (one,) * 4000, {one: 1}):
            self.index(InvalidRequests, None, answers, START, 4, value)
        self.index(InvalidRequests, 59, answers, START, 4, (one,) * 59 + (one[:2],))
        self.index(InvalidRequests, 0, answers, START, 4, one)
        self.assertEqual(answers(START, 4, (one,) * 60)[0], ("done",) * 60)

    def test_order(self):
        self.in_order(answer, (("meaning", START, START[:3], InvalidMeaning, "given"),
                               ("width", 4, 5, InvalidWidth, "given"),
                               ("request", (0, 1, MAKE), (0, 1), InvalidRequest, "given")))
        self.in_order(answers, (("meaning", START, START[:3], InvalidMeaning, "given"),
                                ("width", 4, 5, InvalidWidth, "given"), ("requests", (), [], InvalidRequests, None)))
