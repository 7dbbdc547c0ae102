"""The interface as the document lists it: each name in its file, with these arguments in this order."""

import importlib
import inspect
import unittest

INTERFACE = {
    "numbers": ("inverse(prime, number)", "powers(prime, number, many)", "rank_of(prime, rows)",
                "one_answer(prime, rows, right)"),
    "schemes": ("is_scheme(value)", "points_of(scheme)", "room_of(scheme)", "size_of(scheme)",
                "line_of(scheme, shelf)", "short_line(scheme, shelf)"),
    "codes": ("table_of(scheme, message)", "pieces_of(scheme, message)", "read_from(scheme, shelves, pieces)",
              "letter(scheme, piece, lost)", "mended(scheme, lost, givers, letters)"),
}


class Interface(unittest.TestCase):

    def test_names_and_arguments(self):
        for module, listed in INTERFACE.items():
            found = importlib.import_module("lettermend." + module)
            for text in listed:
                function = getattr(found, text.partition("(")[0])
                with self.subTest(module=module, function=text):
                    self.assertTrue(inspect.isfunction(function))
                    self.assertEqual(function.__module__, found.__name__)
                    self.assertEqual(function.__name__ + str(inspect.signature(function)), text)


if __name__ == "__main__":
    unittest.main()
