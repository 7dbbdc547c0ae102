"""Both files of errors: point 4 and the heading lettermend/errors.py, lettermend/clustererrors.py."""

import unittest

from lettermend import clustererrors, errors
from lettermend.errors import StoreError

GIVEN = ("InvalidPrime InvalidNumber InvalidScheme InvalidShelf InvalidPiece InvalidTold InvalidDisk InvalidBlock "
         "InvalidPlace InvalidWrites InvalidBatch InvalidCount InvalidTorn InvalidHomes InvalidContents "
         "InvalidHistory InvalidMeaning InvalidChunk InvalidRoot InvalidDeed InvalidUsed InvalidWidth NotMended "
         "NotHeld Full").split()
INDEX = "InvalidRows InvalidRow InvalidMessage InvalidPieces InvalidShelves InvalidLetters".split()
CLUSTER_GIVEN = ("InvalidName InvalidPath InvalidView InvalidMeta InvalidLength InvalidClient InvalidRequest "
                 "InvalidCluster InvalidRun InvalidEvent InvalidIndex InvalidLetter InvalidScripts InvalidPost "
                 "InvalidState InvalidLine Lost NotStanding Standing").split()
CLUSTER_INDEX = ("InvalidNumbers InvalidMessages InvalidRequests InvalidSteps InvalidEvents InvalidLines").split()
ALL = ([(errors, name, "given") for name in GIVEN] + [(errors, name, "index") for name in INDEX]
       + [(errors, "TooWide", None)]
       + [(clustererrors, name, "given") for name in CLUSTER_GIVEN]
       + [(clustererrors, name, "index") for name in CLUSTER_INDEX] + [(clustererrors, "TooFewHomes", None)])
THING = object()
KEPT = (0, 7, None, True, "x", 1.5, (), (1, (2,)), [1, [2]], {"a": 1}, THING, len, ValueError("x"), 10 ** 500)


class Errors(unittest.TestCase):

    def test_where_and_how_many(self):
        for module in (errors, clustererrors):
            own = {name for name, value in vars(module).items()
                   if isinstance(value, type) and value.__module__ == module.__name__}
            listed = {name for where, name, _ in ALL if where is module}
            self.assertEqual(own, listed | ({"StoreError"} if module is errors else set()))
        self.assertEqual(len(ALL), 32 + 26)

    def test_base(self):
        self.assertIs(StoreError.__module__, errors.__name__)
        self.assertEqual(StoreError.__bases__, (ValueError,))
        self.assertEqual(vars(StoreError()), {})
        self.assertIsInstance(StoreError("words"), ValueError)
        for module, name, _ in ALL:
            error = getattr(module, name)
            with self.subTest(name=name):
                self.assertEqual(error.__name__, name)
                self.assertEqual(error.__bases__, (StoreError,))
                self.assertEqual(error.__mro__[1:], StoreError.__mro__)

    def test_attribute_by_position_and_by_name(self):
        for module, name, attribute in ALL:
            error = getattr(module, name)
            for value in KEPT:
                with self.subTest(name=name, value=value):
                    if attribute is None:
                        self.assertEqual(vars(error()), {})
                        continue
                    for made in (error(value), error(**{attribute: value})):
                        self.assertEqual(list(vars(made)), [attribute])
                        self.assertIs(getattr(made, attribute), value)

    def test_only_its_own_attribute(self):
        for module, name, attribute in ALL:
            error = getattr(module, name)
            if attribute is None:
                continue
            other = "index" if attribute == "given" else "given"
            with self.subTest(name=name):
                self.assertFalse(hasattr(error(1), other))
                for wrong in ({}, {other: 1}):
                    with self.assertRaises(TypeError):
                        error(**wrong)

    def test_caught_under_the_base(self):
        for module, name, attribute in ALL:
            error = getattr(module, name)
            with self.subTest(name=name):
                with self.assertRaises(StoreError) as caught:
                    raise error(*(["x"] if attribute else []))
                self.assertIs(caught.exception.__class__, error)


if __name__ == "__main__":
    unittest.main()
