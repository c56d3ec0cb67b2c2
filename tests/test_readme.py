import unittest
from pathlib import Path

README = Path(__file__).resolve().parent.parent / "README.md"


class TestReadme(unittest.TestCase):

    def test_the_example_runs(self):
        _, _, rest = README.read_text().partition("```python\n")
        names = {}
        exec(rest.partition("```")[0], names)
        kept = names["sieve"](names["table"], names["plan"], names["draws"])
        self.assertLessEqual(set(kept), {0, 1, 2})
        self.assertIn("# " + names["text"] + "\n", README.read_text())
        self.assertTrue(names["alike"])
        self.assertTrue(names["joined"])
        for name in ("told", "hand"):
            self.assertTrue(names[name].shows(names["columns"], names["plan"], names["where"]))


if __name__ == "__main__":
    unittest.main()
