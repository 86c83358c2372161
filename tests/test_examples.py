"""The examples of the document, in their order: tests/examples.txt has them word for word."""

import pathlib
import unittest

from modesdown import errors
from tests.samples import same

TEXT = pathlib.Path(__file__).resolve().parent.joinpath("examples.txt").read_text()


def steps():
    """The pairs (what is typed, what is told behind it, empty for nothing), heading by heading."""
    found = []
    for line in TEXT.splitlines():
        if line.startswith("# "):
            found.append((line[2:], []))
        elif line.startswith(">>> "):
            found[-1][1].append([line[4:], ""])
        elif line:
            found[-1][1][-1][1] = line
    return found


class Examples(unittest.TestCase):
    def check(self, typed, told, names):
        if told.startswith("raises "):
            wanted = eval(told[7:], dict(vars(errors)))
            with self.assertRaises(errors.ModesError) as held:
                exec(typed, names)
            self.assertIs(type(held.exception), type(wanted))
            self.assertTrue(same(list(vars(held.exception).values()), list(vars(wanted).values())), held.exception)
        elif told:
            self.assertEqual(repr(eval(typed, names)), told)
        else:
            exec(typed, names)

    def test_examples(self):
        names = {}
        many = 0
        for heading, pairs in steps():
            self.assertTrue(pairs, heading)
            for typed, told in pairs:
                with self.subTest(heading, typed=typed):
                    self.check(typed, told, names)
                    many += 1
        self.assertGreater(many, 110)


if __name__ == "__main__":
    unittest.main()
