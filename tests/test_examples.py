"""Every example of the document's interface, word for word, and those of README.md.

sessions.txt holds them in the order of the document; names stay told from one to the next.
"""

import os
import re
import unittest

from lettermend.errors import StoreError

HERE = os.path.dirname(os.path.abspath(__file__))
SESSIONS, README = os.path.join(HERE, "sessions.txt"), os.path.join(os.path.dirname(HERE), "README.md")


def pairs_of(text):
    """The pairs of a line that is typed and of what is answered, "" for nothing."""
    pairs = []
    for line in text.splitlines():
        if line.startswith(">>> "):
            pairs.append([line[4:], ""])
        elif line:
            pairs[-1][1] += line
    return pairs


def answer_to(typed, names):
    """What Python answers, an error as the document writes it."""
    if re.match(r"from |[a-z_, ]+ = ", typed):
        exec(typed, names)
        return ""
    try:
        return repr(eval(typed, names))
    except StoreError as error:
        told = ", ".join(f"{name}={value!r}" for name, value in vars(error).items())
        return f"raises {error.__class__.__name__}({told})"


class Examples(unittest.TestCase):

    def setUp(self):
        self.names = {}

    def test_sessions(self):
        with open(SESSIONS, encoding="ascii") as file:
            pairs = pairs_of(file.read())
        self.assertEqual(len(pairs), 109)
        for typed, answered in pairs:
            with self.subTest(typed=typed):
                self.assertEqual(answer_to(typed, self.names), answered)

    def test_readme(self):
        with open(README, encoding="ascii") as file:
            blocks = re.findall(r"```\n(>>> .*?)```", file.read(), re.S)
        self.assertEqual(len(blocks), 4)
        for typed, answered in pairs_of("".join(blocks)):
            with self.subTest(typed=typed):
                self.assertEqual(answer_to(re.sub(" +# .*", "", typed), self.names), answered)


if __name__ == "__main__":
    unittest.main()
