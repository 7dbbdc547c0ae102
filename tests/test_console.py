"""The console: points 61 and 62 and the heading lettermend/console.py."""

from lettermend.clustererrors import InvalidLine, InvalidLines, InvalidState
from lettermend.clusters import cut_steps, is_cluster, new_cluster
from lettermend.console import answer_line, talk
from lettermend.harm import rotten
from lettermend.meanings import answer
from lettermend.mending import is_mended, mended_cluster, steps_to_mend
from lettermend.reading import meaning
from lettermend.requests import decided_from, request_steps
from lettermend.runs import after_event, begin, is_held
from lettermend.shelves import held, piece_of
from lettermend.trees import node_at, paths_of
from tests.harming import Dice, burn, full_one, harmed, hide_root, litter, narrow_one, renew, small_bases
from tests.making import with_block
from tests.posting import SMALL, WIDE
from tests.support import ODD, Told
from tests.talking import HELP, slow_line
from tests.test_clusters import BURNT, NO_CLUSTERS
from tests.test_packing import MOST
from tests.test_reading import FILES
from tests.test_requests import ROOMS, with_marks

FOUNDING = "found letters 31 6 3 3 5 40"
FULL = full_one()[0]
RIGHT = ("found letters 31 6 3 3 5 40", "found room 31 5 3 4 5 30", "make a", "make a/b/c/d/e/f", "make abcdefgh", "put a",
         "put a 0", "put a 1 2 30", "put a/b 7", "put zz" + " 30" * 60, "copy a b", "copy a/b c/d", "move a b", "remove a",
         "remove a/b", "join 0", "join 5", "leave 3", "cut 0 make a", "cut 5 torn put a 1 2", "cut 999999999 remove b",
         "cut 10 torn join 5", "cut 7 copy a b", "again make a", "again put a 1", "again join 2", "read", "read a",
         "read a/b/c/d/e/f", "burn 0", "burn 5", "renew 1", "rot 0 1 1", "rot 5 999999999 30", "mend", "mend 0",
         "mend 12 torn", "look", "spare", "help")
NO_LINES = ("", " ", "  ", "what", "make", "make ", "make a b", "make A", "make a/", "make /a", "make a//b", "make abcdefghi",
            "make a/b/c/d/e/f/g", "make 1", "make a1", "make  a", " make a", "make a ", "Make a", "makea", "put", "put ",
            "put 1", "put a ", "put a  1", "put a 01", "put a 00", "put a -1", "put a +1", "put a 1 ", "put a 1.0",
            "put a one", "put a 1000000000", "put a" + " 1" * 61, "put a b", "copy a", "copy a b c", "copy a ", "move a",
            "move", "move a b c", "remove", "remove a b", "join", "join a", "join 0 1", "join -1", "join 00", "join 01",
            "leave", "leave 1000000000", "cut", "cut 5", "cut make a", "cut 5 torn", "cut torn make a", "cut 05 make a",
            "cut 5 make", "cut 5 read a", "cut 5 again make a", "cut 5 5 make a", "cut 5 torn torn make a",
            "cut 5 tornmake a", "cut 5 cut 5 make a", "cut 5 mend", "cut -1 make a", "cut 1000000000 make a", "again",
            "again ", "again a", "again read a", "again again make a", "again cut 5 make a", "again make", "read ",
            "read a b", "read A", "read a/", "read /", "burn", "burn a", "burn 0 0", "burn 00", "burn ", "renew",
            "renew 0 1", "rot", "rot 0", "rot 0 1", "rot 0 1 1 1", "rot 0 0 1", "rot 0 1 0", "rot a 1 1", "rot 0 01 1",
            "rot 0 1 1000000000", "mend ", "mend torn", "mend a", "mend 5 6", "mend 5 torn 6", "mend 5 Torn", "mend 05",
            "look ", "look 0", "spare 1", "spare ", "help ", "help me", "Help", "found", "found letters",
            "found letters 31 6 3 3 5", "found letters 31 6 3 3 5 40 1", "found Letters 31 6 3 3 5 40",
            "found way 31 6 3 3 5 40", "found letters 31 6 3 3 5 040", "found letters 31 6 3 3 5 -4",
            "found 31 6 3 3 5 40", "found letters 31 6 3 3 5 1000000000", "read\ta", "make a\n", "\n", "put a \u0661",
            "put a \u00b2", "make \u00e9", "make a\u0000", "put a 1\u00a02", "join \u0660", "read a\r", "look\x0b")


class Lines(Told):

    def same(self, state, line):
        """The line is answered as the words tell."""
        found = answer_line(state, line)
        self.assertEqual(found, slow_line(state, line), line)
        self.assertTrue(found[0] == () or is_cluster(found[0]))
        return found

    def test_no_lines(self):
        for state in ((), WIDE, ROOMS, BURNT, FULL, litter(WIDE, 1, 1)):
            for line in NO_LINES:
                self.assertEqual(answer_line(state, line), (state, "what?"), line)
                self.same(state, line)

    def test_no_store(self):
        for line in RIGHT:
            if line == "help":
                self.assertEqual(answer_line((), line), ((), HELP))
            elif not line.startswith("found"):
                self.assertEqual(answer_line((), line), ((), "no store"), line)
        for line in ("join 999999999", "leave 10", "burn 999999999", "renew 44", "put a 999999999 97", "rot 77 1 999999999",
                     "rot 999999999 5 31", "cut 3 torn put a 500", "again leave 10"):
            self.assertEqual(answer_line((), line), ((), "no store"))
        for line in ("rot 0 0 1", "rot 0 1 0", "put a 1000000000", "join 1000000000"):
            self.assertEqual(answer_line((), line), ((), "what?"))

    def test_numbers_and_shelves_of_the_store(self):
        for line, right in (("put a 30", True), ("put a 31", False), ("put a 1 31", False), ("join 5", True),
                            ("join 6", False), ("leave 5", True), ("leave 6", False), ("burn 5", True), ("burn 6", False),
                            ("renew 5", True), ("renew 6", False), ("rot 5 9 30", True), ("rot 6 9 30", False),
                            ("rot 5 9 31", False), ("cut 3 put a 30", True), ("cut 3 put a 31", False),
                            ("cut 3 torn join 6", False), ("again put a 31", False), ("again leave 6", False)):
            for state in (WIDE, ROOMS, burn(WIDE, 0, 1, 2), litter(WIDE, 2, 2)):
                self.assertIs(self.same(state, line)[1] == "what?", not right, line)

    def test_right_lines_one_sign_off(self):
        for state in ((), ROOMS):
            for line in RIGHT:
                if len(line) > 60:
                    continue
                texts = {line[:at] + line[at + 1:] for at in range(len(line))}
                texts |= {line[:at] + sign + line[at:] for at in range(len(line) + 1) for sign in " 0/a"}
                texts |= {line[:at] + line[at].upper() + line[at + 1:] for at in range(len(line))}
                for text in texts | {line}:
                    self.same(state, text)

    def test_rows_by_words(self):
        for at, base in enumerate([(), WIDE, ROOMS, SMALL, FILES, FULL, narrow_one()[0], BURNT] +
                                  list(harmed(small_bases(), 2, 4))):
            dice, state = Dice(at), base
            for _ in range(40):
                state, text = self.same(state, dice.one_of(RIGHT[:1] * (at % 2) + RIGHT[2:]))
                self.assertIsInstance(text, str)

    def test_found(self):
        for line, scheme, width, many in (("found letters 31 6 3 3 5 40", (31, "letters", 6, 3, 3), 5, 40),
                                          ("found room 97 10 5 8 9 60", (97, "room", 10, 5, 8), 9, 60),
                                          ("found letters 31 10 1 6 7 5", (31, "letters", 10, 1, 6), 7, 5)):
            cluster = new_cluster(scheme, width, tuple(range(scheme[2])), many)
            for state in ((), ROOMS, BURNT):
                self.assertEqual(self.same(state, line), (cluster, "founded"))
        for line in ("found letters 31 6 3 3 5 0", "found letters 31 6 3 3 5 61", "found letters 29 6 3 3 5 40",
                     "found letters 33 6 3 3 5 40", "found letters 31 11 3 3 5 40", "found letters 31 6 3 2 5 40",
                     "found letters 31 6 3 3 3 40", "found letters 31 6 3 3 7 40", "found room 31 6 3 3 5 40",
                     "found letters 31 4 2 2 3 40", "found letters 31 6 3 3 5 2", "found letters 0 0 0 0 0 0",
                     "found letters 999999999 999999999 999999999 999999999 999999999 999999999", "found room 31 1 1 1 1 1",
                     "found letters 31 999999999 3 3 5 40", "found letters 31 10 3 3 4 1"):
            for state in ((), ROOMS):
                self.assertEqual(self.same(state, line), (state, "no such store"))

    def test_deeds(self):
        state = WIDE
        for seq, (line, text) in enumerate((("make a", "done"), ("make a", "taken"), ("put a/b 1 2 3", "done"),
                                            ("put a 1", "taken"), ("copy a c", "done"), ("copy a a/x", "within"),
                                            ("move c/b d", "done"), ("remove c", "done"), ("remove c", "no such"),
                                            ("make q/r", "no room"), ("join 5", "done"), ("join 5", "done"),
                                            ("leave 0", "done"), ("leave 1", "too few")), start=1):
            found, told = self.same(state, line)
            text = "used" if seq == 12 else text
            text = "done" if line == "join 5" and seq == 11 else text
            self.assertEqual(told, text, line)
            self.assertEqual(meaning(found)[2], ((0, seq, text),))
            self.assertIs(is_mended(found), True)
            state = found
        self.assertEqual(answer_line(burn(state, 0), "join 0")[1], "down")
        self.assertEqual(answer_line(new_cluster(WIDE[0], 5, (0, 1, 2, 3, 4), 3), "make a")[1], "full")

    def test_cut(self):
        request = (0, 1, ("put", ("a",), (4, 5)))
        steps, decides = request_steps(WIDE, request)[1], decided_from(WIDE, request)
        for count in (0, 1, decides - 1, decides, len(steps) - 1, len(steps), len(steps) + 1, 999999999):
            for torn in ("", " torn"):
                state, text = self.same(WIDE, f"cut {count}{torn} put a 4 5")
                self.assertEqual(text, "cut" if count < len(steps) else "done")
                self.assertEqual(state, cut_steps(WIDE, steps, count, bool(torn)))
                self.assertEqual(meaning(state)[0], 1 if count < decides else 2)
        # Without steps the reply is told, whatever the cut.
        left = burn(WIDE, 5)
        for line in ("cut 0 join 5", "cut 3 torn join 5"):
            self.assertEqual(self.same(left, line), (left, "down"))

    def test_again(self):
        self.assertEqual(self.same(WIDE, "again make a"), (WIDE, "nothing yet"))
        for reply in ("done", "no room", "taken", "no such", "within", "too deep", "too many", "too few", "used", "unused"):
            marked = with_marks(((0, 7, reply), (3, 2, "done")), 5)
            for line in ("again make a", "again leave 0", "again put b 1 2 3"):
                self.assertEqual(self.same(marked, line), (marked, reply))
        others = with_marks(((1, 7, "taken"),))
        self.assertEqual(self.same(others, "again make a"), (others, "nothing yet"))

    def test_a_mark_at_its_end(self):
        for left in (0, 1):
            marked = with_marks(((0, MOST - left, "taken"),))
            lame = hide_root(marked, 1, ())
            lost = burn(marked, 0, 1, 2)
            for line in ("make a", "cut 3 make a", "cut 3 torn join 5", "put a 1"):
                self.assertIs(self.same(marked, line)[1] == "what?", left == 0)
                self.assertEqual(self.same(lame, line)[1], "what?" if left == 0 else "not mended")
                self.assertEqual(self.same(lost, line)[1], "lost")
            self.assertEqual(self.same(marked, "again make a")[1], "taken")
            self.assertEqual(self.same(lame, "again make a")[1], "not mended")
            self.assertEqual(self.same(marked, "read")[1], "empty")
        end = answer_line(with_marks(((0, MOST - 1, "taken"),)), "make a")[0]
        self.assertEqual([self.same(end, line)[1] for line in ("make b", "again make b", "read")], ["what?", "done", "a/"])

    def test_lost_full_and_not_mended_in_their_order(self):
        lost, lame = burn(ROOMS, 0, 1, 2), litter(ROOMS, 1, 1)
        marked = rotten(with_marks(((0, 3, "used"),)), 0, 1, (1, 1, 1))
        deeds = ("make a", "put a 1", "cut 5 make a", "cut 0 torn leave 1")
        for line in deeds + ("again make a", "read", "read a", "read q", "mend", "mend 3", "mend 3 torn", "spare"):
            self.assertEqual(self.same(lost, line), (lost, "lost"), line)
            self.assertEqual(self.same(BURNT, line), (BURNT, "lost"), line)
        for line in deeds + ("read", "read q", "mend", "mend 0", "mend 3 torn"):
            self.assertEqual(self.same(FULL, line), (FULL, "full"), line)
        self.assertEqual(self.same(FULL, "again make a"), (FULL, "nothing yet"))
        for line in deeds + ("again make a", "read", "read a", "read q/r"):
            self.assertEqual(self.same(lame, line), (lame, "not mended"), line)
        self.assertEqual(self.same(litter(WIDE, 1, 1), "again make a")[1], "nothing yet")
        self.assertEqual(self.same(marked, "again make a")[1], "not mended")
        self.assertEqual(self.same(FULL, "spare")[1].isdigit(), True)
        self.assertEqual(self.same(lame, "spare")[1], "2")
        self.assertEqual(self.same(with_full_mark(), "again make a")[1], "full")

    def test_read(self):
        for state in (WIDE, ROOMS, FILES, burn(ROOMS, 3)):
            view = meaning(state)[3]
            for path in paths_of(view):
                node = node_at(view, path)
                if node[0] == "file":
                    text = " ".join(map(str, node[1])) or "empty"
                else:
                    text = " ".join(name + "/" * (inner[0] == "room") for name, inner in node[1]) or "empty"
                self.assertEqual(self.same(state, "read " + "/".join(path)), (state, text))
        self.assertEqual(self.same(WIDE, "read"), (WIDE, "empty"))
        self.assertEqual(self.same(ROOMS, "read"), (ROOMS, "a/ c d/"))
        self.assertEqual(self.same(ROOMS, "read c"), (ROOMS, "empty"))
        for path in ("q", "c/q", "a/b/c", "a/q"):
            self.assertEqual(self.same(ROOMS, "read " + path), (ROOMS, "no such"))

    def test_burn_renew_and_rot(self):
        self.assertEqual(self.same(WIDE, "burn 2"), (burn(WIDE, 2), "burnt"))
        self.assertEqual(self.same(burn(WIDE, 2), "burn 2"), (burn(WIDE, 2), "burnt"))
        self.assertEqual(self.same(burn(WIDE, 2), "renew 2"), (renew(burn(WIDE, 2), 2), "renewed"))
        self.assertEqual(self.same(WIDE, "renew 2"), (WIDE, "stands"))
        self.assertEqual(self.same(BURNT, "renew 2")[0][2][2], ((),) * 11)
        for shelf in (0, 4):
            for chunk in (1, 2, 3):
                piece = piece_of(WIDE[2][shelf], chunk)
                for more in (1, 30):
                    wrong = ((piece[0] + more) % 31,) + piece[1:]
                    self.assertEqual(self.same(WIDE, f"rot {shelf} {chunk} {more}"),
                                     (rotten(WIDE, shelf, chunk, wrong), "spoilt"))
        torn = with_block(WIDE, 1, 0, None)
        for state, line, text in ((burn(torn, 0), "rot 0 99 1", "burnt"), (torn, "rot 1 1 1", "not mended"),
                                  (torn, "rot 1 99 1", "not mended"), (torn, "rot 0 99 1", "no piece"),
                                  (WIDE, "rot 5 1 1", "no piece"), (BURNT, "rot 0 1 1", "burnt")):
            self.assertEqual(self.same(state, line), (state, text))
        # Rot and burning ask nothing of the rest of the store.
        self.assertEqual(self.same(litter(WIDE, 1, 1), "rot 0 1 1")[1], "spoilt")
        self.assertEqual(self.same(FULL, "burn 0")[1], "burnt")

    def test_mend(self):
        lame = litter(hide_root(WIDE, 2, ()), 3, 2)
        steps = steps_to_mend(lame)
        for count in list(range(len(steps) + 2)) + [999999999]:
            for torn in ("", " torn"):
                state, text = self.same(lame, f"mend {count}{torn}")
                self.assertEqual(text, "cut" if count < len(steps) else "mended")
                self.assertEqual(state, cut_steps(lame, steps, count, bool(torn)))
        self.assertEqual(self.same(lame, "mend"), (mended_cluster(lame), "mended"))
        for line in ("mend", "mend 0", "mend 0 torn", "mend 7"):
            self.assertEqual(self.same(WIDE, line), (WIDE, "nothing"))

    def test_look_spare_and_help(self):
        self.assertEqual(self.same(WIDE, "look"), (WIDE, "1:3 1:3 1:3 1:3 1:3 0:0"))
        later = answer_line(burn(WIDE, 3), "put a 1 2 3 4 5 6 7")[0]
        many = str(len(held(later[2][0])))
        self.assertEqual(self.same(later, "look")[1], f"2:{many} 2:{many} 2:{many} burnt 2:{many} 0:0")
        self.assertEqual(self.same(BURNT, "look")[1], "burnt burnt burnt burnt")
        self.assertEqual(self.same(litter(hide_root(WIDE, 1, ()), 5, 2), "look")[1], "1:3 0:3 1:3 1:3 1:3 0:2")
        for state, text in ((WIDE, "2"), (burn(WIDE, 1), "1"), (burn(WIDE, 1, 3), "0"), (BURNT, "lost")):
            self.assertEqual(self.same(state, "spare"), (state, text))
        for state in ((), WIDE, BURNT):
            self.assertEqual(self.same(state, "help"), (state, HELP))

    def test_wrong(self):
        for value in tuple(value for value in NO_CLUSTERS if not isinstance(value, tuple) or value) + (5, [], [()], ((),)):
            self.given(InvalidState, value, answer_line, value, "help")
        for value in tuple(value for value in ODD if not isinstance(value, str)) + (5, (), "a" * 401, " " * 10 ** 6):
            self.given(InvalidLine, value, answer_line, WIDE, value)
            self.given(InvalidLine, value, answer_line, (), value)
            self.index(InvalidLines, 1, talk, ("help", value, value))
        for value in tuple(value for value in ODD if not isinstance(value, tuple)) + (5, ["help"], ("help",) * 61,
                                                                                      {"help": 1}, "help"):
            self.index(InvalidLines, None, talk, value)
        self.index(InvalidLines, 59, talk, ("help",) * 59 + ("a" * 401,))
        self.assertEqual(answer_line((), "a" * 400), ((), "what?"))
        self.in_order(answer_line, (("state", (), [], InvalidState, "given"), ("line", "help", 5, InvalidLine, "given")))

    def test_by_name(self):
        self.assertEqual(self.by_name(answer_line, state=WIDE, line="spare"), (WIDE, "2"))
        self.assertEqual(self.by_name(talk, lines=("help",) * 60), (HELP,) * 60)
        self.assertEqual(talk(()), ())


def with_full_mark():
    """A cluster whose mending tells Full, and that has a mark of client 0."""
    narrow = narrow_one()[0]
    disks = [len(disk) for disk in narrow[2] if disk is not None]
    marked = answer_line(narrow[:2] + (tuple(disk and disk + ((),) * 18 for disk in narrow[2]),), "make b")[0]
    assert marked != narrow and disks
    homes = max(sum(1 for block in disk[10:] if block) for disk in marked[2] if disk is not None)
    small = []
    for disk in marked[2]:
        blocks = tuple(block for block in disk[10:] if block) if disk is not None else ()
        small.append(None if disk is None else disk[:10] + blocks + ((),) * (homes - len(blocks)))
    return answer_line(marked[:2] + (tuple(small),), "renew 9")[0]


class Talks(Told):

    LINES = ("make a", "put a/x 1 2", "put b 30 0 7", "put b", "copy a c", "move b d", "remove a", "remove d", "join 5",
             "leave 1", "join 1", "leave 4", "put c/y 5 5 5 5 5 5 5 5", "read", "read a", "read b", "read a/x", "read d",
             "read c/y", "mend", "mend 3", "mend 9 torn", "again make a", "look", "spare", "burn 0", "burn 2", "burn 3",
             "renew 0", "renew 2", "renew 3", "mend", "mend", "mend", "mend", "put e 1", "read e", "read e", "put e 5 6",
             "put b 8", "read b", "read c", "put c/y 1 2")

    def test_talk_is_line_by_line(self):
        for seed in range(6):
            dice, state, texts = Dice(seed), (), []
            lines = [FOUNDING] * (seed % 3 != 0) + [dice.one_of(self.LINES) for _ in range(40)]
            for line in lines:
                state, text = answer_line(state, line)
                texts.append(text)
            self.assertEqual(talk(tuple(lines)), tuple(texts))

    def line_for(self, dice, rots):
        """A line that may come next."""
        line = dice.one_of(self.LINES)
        if line.split(" ")[0] in ("make", "put", "copy", "move", "remove", "join", "leave") and dice.below(3) == 0:
            return f"cut {dice.below(160)}{' torn' * dice.below(2)} {line}"
        return f"rot {dice.below(6)} {1 + dice.below(40)} {1 + dice.below(30)}" if rots and dice.below(9) == 0 else line

    def follow(self, seed, rots):
        """A talk beside a plain store, as long as it is held if there is rot; how many reads told numbers."""
        dice, state = Dice(seed), answer_line((), FOUNDING)[0]
        run, may, told = begin(state), [meaning(state)], 0
        for _ in range(70):
            line = self.line_for(dice, rots)
            ahead, event = state, event_of(line, state)
            after, text = answer_line(state, line)
            if event is not None and text not in ("lost", "full", "not mended", "burnt", "stands", "no piece", "what?",
                                                  "nothing yet") or event is not None and after != ahead:
                later = after_event(run, event)[1]
                self.assertEqual(later[0], after)
                if rots and not is_held(later):
                    continue
                run = later
            elif after != ahead:
                self.fail(line)
            state = after
            if event is not None and event[0] in ("request", "cut") and text not in ("lost", "full", "not mended", "down"):
                now = meaning(ahead)
                behind = answer(now, 5, event[1])[1]
                may = [now, behind] if text == "cut" else [behind]
            if meaning(state) is not None:
                self.assertIn(meaning(state), may)
            elif dice.below(3) == 0:
                state = answer_line(state, FOUNDING)[0]
                run, may = begin(state), [meaning(state)]
            if rots:
                self.assertNotEqual(text, "lost")
            if dice.below(2) == 0 and answer_line(state, "read")[1] not in ("lost", "full", "not mended"):
                for path in paths_of(meaning(state)[3]) + (("q",), ("a", "q")):
                    told += self.read_is(state, "read " + "/".join(path))
        return told

    def read_is(self, state, line):
        """A read of a mended store tells what the plain store has; whether it told numbers."""
        text, node = answer_line(state, line)[1], node_at(meaning(state)[3], tuple(line.split(" ")[1].split("/")))
        if node is None:
            self.assertEqual(text, "no such")
        elif node[0] == "file":
            self.assertEqual(text, " ".join(map(str, node[1])) or "empty")
            return bool(node[1])
        return False

    def test_reads_against_a_plain_store(self):
        told = 0
        for seed in range(7):
            told += self.follow(seed, False)
            told += self.follow(seed + 50, True)
        self.assertGreater(told, 100)


def event_of(line, state):
    """The event of a run that a line is; None for what changes nothing."""
    words = line.split(" ")
    mark = meaning(state)[2] if meaning(state) else ()
    seq = mark[0][1] if mark else 0
    if words[0] in ("make", "put", "copy", "move", "remove", "join", "leave"):
        return "request", (0, seq + 1, deed_in_words(words))
    if words[0] == "cut":
        torn = words[2] == "torn"
        return "cut", (0, seq + 1, deed_in_words(words[2 + torn:])), int(words[1]), torn
    if words[0] == "mend":
        return ("mend",) if len(words) == 1 else ("cut mend", int(words[1]), len(words) > 2)
    if words[0] in ("burn", "renew"):
        return words[0], int(words[1])
    if words[0] == "rot":
        shelf, chunk, more = map(int, words[1:])
        piece = piece_of(state[2][shelf], chunk) if state[2][shelf] is not None else None
        return ("rot", shelf, chunk, ((piece[0] + more) % 31,) + piece[1:]) if piece else None
    return None


def deed_in_words(words):
    """The deed of these words."""
    if words[0] in ("join", "leave"):
        return words[0], int(words[1])
    if words[0] == "put":
        return "put", tuple(words[1].split("/")), tuple(map(int, words[2:]))
    return (words[0],) + tuple(tuple(path.split("/")) for path in words[1:])
