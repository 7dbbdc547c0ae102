"""Trees: points 29 and 30 and the heading lettermend/trees.py."""

import itertools

from lettermend.clustererrors import InvalidPath, InvalidView
from lettermend.errors import InvalidDeed
from lettermend.trees import deepest, is_name, is_path, is_view, node_at, paths_of, tree_deed
from tests.support import ODD, Told

LONG = "abcdefgh"
SIXTY = tuple(range(37, 97))


def words(many):
    """So many unlike names, ascending."""
    return tuple(sorted(a + b for a in "abcdefgh" for b in "stuvwxyz"))[:many]


def room_of(*pairs):
    """The room of these pairs of a name and a node, in ascending order."""
    return tuple(sorted(pairs, key=lambda pair: pair[0]))


def chain(deep, last):
    """A view with a room in a room .. and the node `last`, `deep` names deep."""
    node = last
    for _ in range(deep):
        node = ("room", (("a", node),))
    return node[1]


def wide(many):
    """A view of so many names, half of them in the room a."""
    inner = tuple((name, ("file", ())) for name in words(many // 2))
    outer = tuple((name, ("room", ())) for name in words(many - many // 2 - 1))
    return (("a", ("room", inner)),) + outer


EMPTY = ("room", ())
FILE = ("file", (7, 0, 7))
DEEP = ("room", room_of(("e", ("file", ()))))
SMALL = room_of(("a", ("room", room_of(("b", FILE), ("c", EMPTY), ("d", DEEP)))), ("ab", ("file", (96,))), ("b", EMPTY))
VIEWS = ((), SMALL, chain(5, FILE), chain(5, EMPTY), chain(4, EMPTY), wide(39), wide(40),
         room_of(("a", EMPTY)), room_of(("a", FILE)))


def model_of(view, ahead=()):
    """All that stands in the view: a dict of paths, each with "room" or the numbers of the file."""
    found = {}
    for name, (word, inner) in view:
        path = ahead + (name,)
        found[path] = word if word == "room" else inner
        if word == "room":
            found.update(model_of(inner, path))
    return found


def within(model, path):
    """The paths of the model that begin with this one."""
    return [other for other in model if other[:len(path)] == path]


def no_room(model, path):
    """Whether the parent of the path is no room."""
    return len(path) > 1 and model.get(path[:-1]) != "room"


def slow_outcome(model, deed):
    """The outcome by the words of point 30."""
    word, path = deed[:2]
    if word == "make":
        told = (("no room", no_room(model, path)), ("taken", path in model), ("too many", len(model) == 40))
    elif word == "put":
        told = (("no room", no_room(model, path)), ("taken", model.get(path) == "room"),
                ("too many", path not in model and len(model) == 40))
    elif word == "remove":
        told = (("no such", path not in model),)
    else:
        to, copied = deed[2], within(model, path)
        deep = max([len(to) + len(other) - len(path) for other in copied], default=0)
        told = (("no such", path not in model), ("within", to[:len(path)] == path), ("no room", no_room(model, to)),
                ("taken", to in model), ("too deep", deep > 6),
                ("too many", word == "copy" and len(model) + len(copied) > 40))
    return next((outcome for outcome, holds in told if holds), "done")


def slow_left(model, deed):
    """All that stands behind a deed that is done, by the words of point 30."""
    word, path = deed[:2]
    left = dict(model)
    if word == "make":
        left[path] = "room"
    elif word == "put":
        left[path] = deed[2]
    elif word in ("copy", "move"):
        left.update({deed[2] + other[len(path):]: model[other] for other in within(model, path)})
    if word in ("move", "remove"):
        for other in within(model, path):
            del left[other]
    return left


def deeds_for(paths):
    """All deeds with these paths."""
    deeds = [(word, path) for word in ("make", "remove") for path in paths]
    deeds += [("put", path, numbers) for path in paths for numbers in ((), (5, 96))]
    return deeds + [(word, path, to) for word in ("copy", "move") for path in paths for to in paths]


class Kinds(Told):

    def test_names(self):
        for value in ("a", "z", LONG, "letters", "az", "zzzzzzzz"):
            self.assertIs(is_name(value), True)
        for value in tuple(value for value in ODD if value.__class__ is not str) + (
                "", "A", "a1", "1", "a b", " a", "a ", "abcdefghi", "\u00e4", "\u0430", "a\n", "a/b", "a-", "`", "{",
                "a" * 4000, ("a",), ("a", "b"), 5, b"a", ["a"]):
            self.assertIs(is_name(value), False)
        self.assertIs(self.by_name(is_name, value="a"), True)

    def test_paths(self):
        for value in (("a",), (LONG,) * 6, ("a", "b", "a"), ("letters",)):
            self.assertIs(is_path(value), True)
        for value in ODD + ((), ("a",) * 7, ("a",) * 4000, ("a", ""), ("A",), ("a", "abcdefghi"), ["a"], "a", "abc",
                            ("a", 1), ("a", None), (("a",),), ("a", ("b",)), {"a": 1}, ("a", True)):
            self.assertIs(is_path(value), False)
        self.assertIs(self.by_name(is_path, value=("a",)), True)

    def test_right_views(self):
        for value in VIEWS + (chain(5, ("file", SIXTY)), chain(5, EMPTY), (("a", FILE),), ((LONG, EMPTY),),
                              room_of(("a", FILE), ("aa", FILE), ("b", FILE), ("ba", EMPTY)), (("x", ("file", ())),)):
            self.assertIs(is_view(value), True, value)
        self.assertIs(self.by_name(is_view, value=()), True)

    def test_depth_and_number_of_names(self):
        for deep in range(13):
            for last in (FILE, EMPTY):
                if deep:
                    self.assertIs(is_view(chain(deep, last)), deep <= 6)
        for many in (2, 39, 40, 41, 60):
            self.assertIs(is_view(wide(many)), many <= 40)
            self.assertIs(is_view(tuple((name, EMPTY) for name in words(many))), many <= 40)
        self.assertIs(is_view(tuple(("a" * at, EMPTY) for at in range(1, 9)) + tuple(
            (name, EMPTY) for name in words(64)[8:40])), True)
        # So many names that a look at all of them would never end.
        room = ("room", ())
        for _ in range(6):
            room = ("room", tuple((name, room) for name in words(40)))
            self.assertIs(is_view(room[1]), room[1][0][1] == EMPTY)

    def test_names_of_a_room(self):
        for names in (("b", "a"), ("a", "a"), ("ab", "a"), ("a", "c", "b"), ("b", "ab"), ("z", "aa"), ("", "a"), ("A",),
                      ("abcdefghi",)):
            room = tuple((name, EMPTY) for name in names)
            self.assertIs(is_view(room), False)
            self.assertIs(is_view((("k", ("room", room)),)), False)
        for value in ODD + (5, None, ("a",)):
            if value.__class__ is not str or value != "letters":
                self.assertIs(is_view(((value, EMPTY),)), False)

    def test_nodes(self):
        wrong = list(ODD) + [5, (), ("file",), ("room",), ("file", (), ()), ("room", (), ()), ["file", ()],
                             ["room", ()], ("File", ()), ("", ()), ("file", [1]), ("room", []), ("file", 1),
                             ("room", 1), ("file", (-1,)), ("file", (97,)), ("file", (10 ** 30,)), ("file", (True,)),
                             ("file", ("1",)), ("file", ((1,),)), ("file", (0,) * 61), ("file", (0,) * 4000),
                             ("room", (("a", FILE), ("a", FILE))), ("room", ("a", FILE)), ("room", (FILE,)),
                             ("room", FILE), FILE + (1,), ("file", None), ("room", None)]
        wrong += [(word, ()) for word in ODD] + [("file", value) for value in ODD] + [("room", value) for value in ODD]
        for node in wrong:
            for view in ((("a", node),), (("a", FILE), ("b", node)), (("a", ("room", (("b", node),))), ("c", FILE))):
                self.assertIs(is_view(view), False)
        self.assertIs(is_view((("a", ("file", (0, 96) * 30)),)), True)

    def test_no_views(self):
        for value in ODD + (5, [], list(SMALL), ("a", FILE), (("a",),), (("a", FILE, 1),), (["a", FILE],), (FILE,),
                            ("ab",), {"a": FILE}, ("room", SMALL), (("a", FILE), 5), ((),), (((),),)):
            self.assertIs(is_view(value), False)


class Looks(Told):

    def test_node_at(self):
        for view in VIEWS:
            model = model_of(view)
            self.assertEqual(node_at(view, ()), ("room", view))
            for path in model:
                node = node_at(view, path)
                self.assertEqual(node[0], "room" if model[path] == "room" else "file")
                if node[0] == "file":
                    self.assertEqual(node[1], model[path])
                else:
                    self.assertEqual(model_of(node[1], path), {other: model[other] for other in within(model, path)
                                                               if other != path})
            for path in (("x",), ("a", "x"), ("a", "b", "c"), ("ab", "c"), ("b", "b"), ("a",) * 6, ("x",) * 6):
                if path not in model:
                    self.assertIsNone(node_at(view, path))
        self.assertEqual(self.by_name(node_at, view=SMALL, path=("a", "b")), FILE)

    def test_paths_and_depth(self):
        for view in VIEWS:
            paths = paths_of(view)
            self.assertEqual(list(paths), sorted(model_of(view)))
            self.assertEqual(deepest(view), max(map(len, model_of(view)), default=0))
            self.assertIsInstance(paths, tuple)
        self.assertEqual(self.by_name(paths_of, view=SMALL), (("a",), ("a", "b"), ("a", "c"), ("a", "d"),
                                                              ("a", "d", "e"), ("ab",), ("b",)))
        self.assertEqual(self.by_name(deepest, view=SMALL), 3)
        self.assertEqual([deepest(chain(deep, FILE)) for deep in range(1, 7)], [1, 2, 3, 4, 5, 6])
        self.assertEqual((deepest(()), paths_of(())), (0, ()))

    def test_wrong(self):
        for value in ODD + (5, (("a", FILE), ("a", FILE)), chain(7, FILE), wide(41), list(SMALL), ((),)):
            self.given(InvalidView, value, node_at, value, ())
            self.given(InvalidView, value, paths_of, value)
            self.given(InvalidView, value, deepest, value)
            self.given(InvalidView, value, tree_deed, value, ("make", ("a",)))
        for value in ODD + (5, "a", ["a"], [], ("a",) * 7, ("a", ""), ("a", 1), ("abcdefghi",), (("a",),)):
            self.given(InvalidPath, value, node_at, SMALL, value)
        self.in_order(node_at, (("view", SMALL, SMALL[::-1], InvalidView, "given"),
                                ("path", ("a",), ("A",), InvalidPath, "given")))
        self.in_order(tree_deed, (("view", SMALL, SMALL[::-1], InvalidView, "given"),
                                  ("deed", ("make", ("c",)), ("make", ()), InvalidDeed, "given")))


class Deeds(Told):

    def same(self, view, deed):
        """The outcome and the view behind the deed are what the words tell; the view behind is told."""
        model = model_of(view)
        outcome, left = tree_deed(view, deed)
        self.assertEqual(outcome, slow_outcome(model, deed), (view, deed))
        self.assertIs(is_view(left), True)
        if outcome == "done":
            self.assertEqual(model_of(left), slow_left(model, deed), (view, deed))
            kept = [path for path in model if path[:len(deed[1])] != deed[1]]
            self.assertEqual([model_of(left)[path] for path in kept], [model[path] for path in kept])
        else:
            self.assertEqual(left, view)
        return left

    def test_all_deeds_on_some_views(self):
        paths = (("a",), ("b",), ("ab",), ("c",), ("a", "b"), ("a", "c"), ("a", "d"), ("a", "d", "e"), ("a", "a"),
                 ("b", "a"), ("a", "b", "a"), ("x", "y"), ("a",) * 5, ("a",) * 6, ("as",), ("a", "as"))
        for view in VIEWS:
            for deed in deeds_for(paths):
                self.same(view, deed)

    def test_rows_of_deeds(self):
        paths = [path for many in (1, 2, 3) for path in itertools.product(("a", "b", "ab"), repeat=many)]
        deeds = deeds_for(paths[:20]) + deeds_for(paths[20:26])
        for start in range(12):
            view, at = (), start
            for step in range(250):
                at = (at * 1103 + 12345 + step * start) % 1000003
                view = self.same(view, deeds[at % len(deeds)])

    def test_outcomes_in_order(self):
        full = wide(40)
        name = words(1)[0]
        cases = (((), ("make", ("a", "b")), "no room"), (SMALL, ("make", ("ab", "b")), "no room"),
                 (full, ("make", ("x", "y")), "no room"), (full, ("make", ("a",)), "taken"),
                 (full, ("make", ("x",)), "too many"), (wide(39), ("make", ("x",)), "done"),
                 (SMALL, ("put", ("ab", "b"), ()), "no room"), (full, ("put", ("x", "y"), ()), "no room"),
                 (full, ("put", ("a",), ()), "taken"), (full, ("put", ("x",), ()), "too many"),
                 (full, ("put", ("a", name), (1,)), "done"), (wide(39), ("put", ("x",), ()), "done"),
                 (SMALL, ("copy", ("x",), ("x",)), "no such"), (SMALL, ("copy", ("x",), ("x", "y")), "no such"),
                 (SMALL, ("copy", ("a",), ("a",)), "within"), (SMALL, ("copy", ("a",), ("a", "x")), "within"),
                 (SMALL, ("copy", ("a",), ("a", "x", "y")), "within"),
                 (SMALL, ("copy", ("ab",), ("ab", "c")), "within"),
                 (SMALL, ("copy", ("ab",), ("x", "c")), "no room"), (SMALL, ("copy", ("b",), ("ab", "c")), "no room"),
                 (SMALL, ("copy", ("a",), ("ab",)), "taken"), (full, ("copy", ("a", name), ("a",)), "taken"),
                 (full, ("copy", ("a", name), ("x",)), "too many"), (full, ("copy", ("x",), ("y",)), "no such"),
                 (full, ("move", ("a", name), ("x",)), "done"), (full, ("move", ("a",), ("x",)), "done"),
                 (SMALL, ("move", ("x",), ("x", "y")), "no such"), (SMALL, ("move", ("a",), ("a", "x")), "within"),
                 (SMALL, ("move", ("a",), ("a",)), "within"), (SMALL, ("move", ("a",), ("x", "a")), "no room"),
                 (SMALL, ("move", ("a", "b"), ("a",)), "taken"), (SMALL, ("move", ("a",), ("b",)), "taken"),
                 (SMALL, ("remove", ("x",)), "no such"), (SMALL, ("remove", ("ab", "x")), "no such"),
                 (full, ("remove", ("a",)), "done"))
        for view, deed, outcome in cases:
            self.assertEqual(tree_deed(view, deed)[0], outcome, deed)
            self.same(view, deed)

    def test_six_names_deep(self):
        five = room_of(*chain(5, EMPTY), ("b", ("room", (("c", FILE),))), ("f", FILE))
        path = ("a",) * 5
        self.assertEqual(tree_deed(five, ("make", path + ("x",)))[0], "done")
        self.assertEqual(tree_deed(five, ("put", path + ("x",), ()))[0], "done")
        for word in ("copy", "move"):
            self.assertEqual(tree_deed(five, (word, ("f",), path + ("f",)))[0], "done")
            self.assertEqual(tree_deed(five, (word, ("b",), path + ("b",)))[0], "too deep")
            self.assertEqual(tree_deed(five, (word, ("b",), path[:4] + ("b",)))[0], "done")
            self.assertEqual(tree_deed(five, (word, ("a", "a"), ("b", "a")))[0], "done")
            self.assertEqual(tree_deed(five, (word, ("a",), ("b", "a")))[0], "done")
            self.assertEqual(tree_deed(room_of(*chain(6, EMPTY), ("b", EMPTY)),
                                       (word, ("a",), ("b", "a")))[0], "too deep")
        many = room_of(*chain(5, ("room", tuple((name, FILE) for name in words(25)))), ("b", EMPTY))
        # Both hold: it would be too deep, and too many names would stand.
        self.assertEqual(tree_deed(many, ("copy", ("a",), ("b", "a")))[0], "too deep")
        self.assertEqual(tree_deed(many, ("copy", ("a", "a"), ("b", "a")))[0], "too many")
        self.assertEqual(tree_deed(many, ("move", ("a", "a"), ("b", "a")))[0], "done")

    def test_forty_names(self):
        for many in (1, 5, 19):
            inner = tuple((name, FILE) for name in words(many))
            for spare in (many, many + 1):
                rest = tuple((name, EMPTY) for name in words(40 - many - 1 - spare))
                view = (("a", ("room", inner)),) + rest
                outcome = "done" if spare == many + 1 else "too many"
                self.assertEqual(tree_deed(view, ("copy", ("a",), ("z",)))[0], outcome)
                self.assertEqual(tree_deed(view, ("move", ("a",), ("z",)))[0], "done")
        view = ()
        for at, name in enumerate(words(41)):
            self.assertEqual(len(paths_of(view)), at)
            outcome, view = tree_deed(view, ("make", (name,)))
            self.assertEqual(outcome, "done" if at < 40 else "too many")

    def test_copies_go_their_own_ways(self):
        outcome, view = tree_deed(SMALL, ("copy", ("a",), ("c",)))
        self.assertEqual((outcome, node_at(view, ("c",))), ("done", node_at(SMALL, ("a",))))
        for first, other in ((("a",), ("c",)), (("c",), ("a",))):
            for deed in (("put", first + ("b",), (1, 2)), ("remove", first + ("d",)), ("make", first + ("x",)),
                         ("move", first + ("b",), first + ("y",)), ("remove", first)):
                left = self.same(view, deed)
                self.assertEqual(node_at(left, other), node_at(SMALL, ("a",)))
                self.assertNotEqual(node_at(left, first), node_at(SMALL, ("a",)))

    def test_there_and_back(self):
        for view in VIEWS:
            for path in paths_of(view):
                for to in (("x",), ("b", "x"), ("a", "x"), ("a", "d", "x"), ("ab",)):
                    outcome, left = tree_deed(view, ("move", path, to))
                    if outcome == "done":
                        self.assertEqual(tree_deed(left, ("move", to, path)), ("done", view))
            for deed in (("make", ("x",)), ("put", ("x",), (1,)), ("make", ("a", "x")), ("put", ("a", "x"), ())):
                outcome, left = tree_deed(view, deed)
                if outcome == "done":
                    self.assertEqual(tree_deed(left, ("remove", deed[1])), ("done", view))
        first = tree_deed(SMALL, ("put", ("a", "b"), (1, 2, 3)))[1]
        self.assertEqual(tree_deed(first, ("put", ("a", "b"), FILE[1])), ("done", SMALL))

    def test_by_name(self):
        self.assertEqual(self.by_name(tree_deed, view=(), deed=("put", ("a",), SIXTY)),
                         ("done", (("a", ("file", SIXTY)),)))

    def test_no_deeds(self):
        wrong = list(ODD) + [5, (), ("make",), ("remove",), ("make", ()), ("remove", ()), ("make", ("a",), ()),
                             ("remove", ("a",), ("b",)), ("put", ("a",)), ("put", ("a",), (), ()), ("copy", ("a",)),
                             ("move", ("a",)), ("copy", ("a",), ()), ("copy", (), ("a",)), ("move", ("a",), ()),
                             ("copy", ("a",), ("b",), ("c",)), ["make", ("a",)], ["put", ("a",), ()], ("join", 1),
                             ("leave", 1), ("read", ("a",)), ("Make", ("a",)), ("", ("a",)), ("makes", ("a",)),
                             ("put", ("a",), ("b",)), ("copy", ("a",), (1,)), ("make", "a"), ("make", ["a"]),
                             ("put", "a", ()), ("make", ("a",) * 7), ("copy", ("a",), ("a",) * 7), ("make", ("A",))]
        for value in ODD:
            wrong += [(value, ("a",)), (value, ("a",), ()), (value, ("a",), ("b",)), ("make", value), ("remove", value),
                      ("put", value, ()), ("put", ("a",), value), ("copy", value, ("a",)), ("copy", ("a",), value),
                      ("move", value, ("a",)), ("move", ("a",), value)]
        wrong += [("put", ("a",), numbers) for numbers in ((-1,), (97,), (0,) * 61, [1], (1, True), (1, "1"),
                                                           (0,) * 4000,
                                                           (10 ** 30,), (1, None))]
        for deed in wrong:
            self.given(InvalidDeed, deed, tree_deed, SMALL, deed)
