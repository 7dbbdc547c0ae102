"""Wishes, clients and letters: points 54 to 56 and the heading lettermend/wishes.py."""

from lettermend.clustererrors import InvalidClient, InvalidIndex, InvalidLetter
from lettermend.wishes import is_client, is_letter, is_wish, seq_at, takes, waits_at
from tests.support import ODD, Told
from tests.test_meanings import ROOT_DEEDS
from tests.test_packing import MOST, OUTCOMES
from tests.test_trees import deeds_for

MAKE, READ, PUT = ("make", ("a",)), ("read", ("a",)), ("put", ("b",), (96, 0))
REPLIES = OUTCOMES + ("old", "early", "down", "full")
SCRIPT = (MAKE, READ, PUT, READ, ("join", 9), MAKE)
CLIENT = (5, SCRIPT, ("done", None))
WISHES = tuple(deeds_for((("a",), ("b", "c")))) + ROOT_DEEDS + (READ, ("read", ("z",) * 6))
NO_WISHES = ODD + (5, (), ("read",), ("read", ()), ("read", "a"), ("read", ["a"]), ("read", ("A",)), ("read", ("a",) * 7),
                   ("read", ("a",), 1), ["read", ("a",)], ("Read", ("a",)), ("make",), ("make", ()), ("make", ("a",), 1),
                   ("put", ("a",)), ("put", ("a",), (97,)), ("put", ("a",), (-1,)), ("put", ("a",), [1]),
                   ("put", ("a",), (1,) * 61), ("put", ("a",), (True,)), ("join", 10), ("join", -1), ("join", True),
                   ("leave",), ("copy", ("a",)), ("move", ("a",), ()), ("burn", 1), "make", ("", ("a",)), (None, ("a",)))
NO_FOUND = tuple(value for value in ODD if value is not None) + (5, (97,), (-1,), (1,) * 61, [1], "1", (True,), (1, None))


class Wishes(Told):

    def test_right_and_wrong(self):
        for value in WISHES:
            self.assertIs(is_wish(value), True, value)
        for value in NO_WISHES:
            self.assertIs(is_wish(value), False, value)
        self.assertIs(self.by_name(is_wish, value=READ), True)


class Clients(Told):

    def test_right_ones(self):
        for start in (0, 1, MOST, 10 ** 300):
            for many in range(13):
                script = (MAKE, READ, PUT, ("leave", 3)) * 3
                for done in range(many + 1):
                    answers = (("taken", None, "done", "unused") * 3)[:done]
                    self.assertIs(is_client((start, script[:many], answers)), True)
        for outcome in OUTCOMES:
            self.assertIs(is_client((0, (MAKE,), (outcome,))), True)
        for found in (None, (), (0, 96), (1,) * 60):
            self.assertIs(is_client((0, (READ,), (found,))), True)
        self.assertIs(self.by_name(is_client, value=CLIENT), True)

    def wrong(self):
        """What is no client's state."""
        wrong = list(ODD) + [5, (), CLIENT[:2], CLIENT + (1,), list(CLIENT), (-1,) + CLIENT[1:], (5, (MAKE,) * 13, ()),
                             (5, [MAKE], ()), (5, (MAKE,), ["done"]), (5, (), ("done",)), (5, (MAKE,), ("done",) * 2),
                             (5, MAKE, ()), (5, (MAKE, READ), (None,)), (5, (MAKE, READ), ("done", "done")),
                             (5, (READ,), ("done",)), (5, (MAKE,), ((1,),)), (5, (MAKE, MAKE), ("done", "Done"))]
        wrong += [(value, SCRIPT, ()) for value in ODD] + [(5, value, ()) for value in ODD]
        wrong += [(5, SCRIPT, value) for value in ODD] + [(5, (MAKE, value), ()) for value in NO_WISHES]
        wrong += [(5, (MAKE,), (value,)) for value in ODD + REPLIES[10:] + ("", "Done", ("done",))]
        wrong += [(5, (READ,), (value,)) for value in NO_FOUND + REPLIES]
        return wrong

    def test_wrong_ones(self):
        letter = ("told", 0, 2, "done")
        for value in self.wrong():
            self.assertIs(is_client(value), False, value)
            self.given(InvalidClient, value, waits_at, value)
            self.given(InvalidClient, value, seq_at, value, 0)
            self.given(InvalidClient, value, takes, value, letter, 0)

    def test_waits_at(self):
        for done in range(7):
            client = (5, SCRIPT, ("done", None, "taken", (1,), "used", "taken")[:done])
            self.assertEqual(waits_at(client), done if done < 6 else None)
        self.assertIsNone(waits_at((0, (), ())))
        self.assertEqual(self.by_name(waits_at, client=CLIENT), 2)

    def test_seq_at(self):
        for start in (0, 5, MOST, 10 ** 300):
            told = [seq_at((start, SCRIPT, ()), at) for at in range(6)]
            self.assertEqual(told, [start + 1, start + 1, start + 2, start + 2, start + 3, start + 4])
        self.assertEqual([seq_at((3, (READ, READ, MAKE, READ), (None,)), at) for at in range(4)], [3, 3, 4, 4])
        self.assertEqual(self.by_name(seq_at, client=CLIENT, at=2), 7)
        for value in ODD + (-1, 6, 12, 10 ** 30, "0"):
            self.given(InvalidIndex, value, seq_at, CLIENT, value)
        self.given(InvalidIndex, 0, seq_at, (0, (), ()), 0)
        self.in_order(seq_at, (("client", CLIENT, CLIENT[:2], InvalidClient, "given"),
                               ("at", 0, 6, InvalidIndex, "given")))


class Letters(Told):

    def test_right_ones(self):
        for client in (0, 7):
            for at in (0, 11):
                for wish in WISHES:
                    for seq in (1, MOST):
                        self.assertIs(is_letter(("ask", client, at, seq, wish)), True)
                    self.assertIs(is_letter(("ask", client, at, 0, wish)), wish[0] == "read")
                for answer in REPLIES + (None, (), (0, 96), (1,) * 60):
                    self.assertIs(is_letter(("told", client, at, answer)), True)
        self.assertIs(self.by_name(is_letter, value=("ask", 0, 0, 1, MAKE)), True)

    def test_wrong_ones(self):
        ask, told = ("ask", 0, 0, 1, MAKE), ("told", 0, 0, "done")
        wrong = list(ODD) + [5, (), ask[:4], ask + (1,), list(ask), told[:3], told + (1,), list(told), ("Ask",) + ask[1:],
                             ("told",) + ask[1:], ("ask",) + told[1:], (None,) + ask[1:], (1,) + told[1:], "ask"]
        for letter in (ask, told):
            wrong += [(value,) + letter[1:] for value in ODD]
            wrong += [letter[:1] + (value,) + letter[2:] for value in ODD + (-1, 8, 10 ** 30, (0,))]
            wrong += [letter[:2] + (value,) + letter[3:] for value in ODD + (-1, 12, 10 ** 30, (0,))]
        wrong += [("ask", 0, 0, value, wish) for wish in (MAKE, READ) for value in ODD + (-1, MOST + 1, 10 ** 30)]
        wrong += [("ask", 0, 0, 0, MAKE), ("ask", 0, 0, 0, PUT), ("ask", 0, 0, 0, ("join", 0))]
        wrong += [("ask", 0, 0, 1, wish) for wish in NO_WISHES]
        wrong += [("told", 0, 0, value) for value in NO_FOUND + ("Done", "what?", ("done",), ["done"])]
        for value in wrong:
            self.assertIs(is_letter(value), False, value)
            self.given(InvalidLetter, value, takes, CLIENT, value, 0)


class Takes(Told):

    def test_each_answer(self):
        for done in range(7):
            client = (5, SCRIPT, ("done", None, "taken", (1,), "used", "taken")[:done])
            for at in range(12):
                for answer in REPLIES + (None, (), (0, 96)):
                    for to in (0, 3):
                        found = takes(client, ("told", to, at, answer), 3)
                        right = (answer is None or isinstance(answer, tuple)) if done in (1, 3) else answer in OUTCOMES
                        if to == 3 and at == done and done < 6 and right:
                            self.assertEqual(found, client[:2] + (client[2] + (answer,),))
                        else:
                            self.assertEqual(found, client)
        self.assertEqual(self.by_name(takes, client=CLIENT, letter=("told", 7, 2, "done"), name=7),
                         CLIENT[:2] + (CLIENT[2] + ("done",),))
        self.assertEqual(takes((0, (), ()), ("told", 0, 0, "done"), 0), (0, (), ()))

    def test_wrong(self):
        told = ("told", 0, 2, "done")
        for value in (("ask", 0, 2, 7, PUT), ("ask", 0, 1, 6, READ)):
            self.assertIs(is_letter(value), True)
            self.given(InvalidLetter, value, takes, CLIENT, value, 0)
        for value in ODD + (-1, 8, 10 ** 30, "0", (0,)):
            self.given(InvalidIndex, value, takes, CLIENT, told, value)
        self.in_order(takes, (("client", CLIENT, CLIENT[:2], InvalidClient, "given"),
                              ("letter", told, ("ask", 0, 2, 7, PUT), InvalidLetter, "given"),
                              ("name", 0, 8, InvalidIndex, "given")))
