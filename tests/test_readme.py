"""What README.md shows is what the program tells."""

import re
import unittest
from pathlib import Path

README = Path(__file__).resolve().parent.parent / "README.md"


class Readme(unittest.TestCase):
    def test_examples(self):
        names = {}
        seen = 0
        for block in re.findall("```python\n(.*?)```", README.read_text("ascii"), re.DOTALL):
            for line in block.splitlines():
                code, _, comment = line.partition("#")
                if not comment:
                    exec(code, names)
                    continue
                with self.subTest(line=line):
                    told = eval(code, names)
                    seen += 1
                    # Behind a word and a comma stand explanations.
                    shown = comment.strip().replace("nothing,", "None,")
                    self.assertTrue(shown == self.written(told) or shown.startswith(self.written(told) + ", "))
        self.assertGreater(seen, 15)

    def written(self, told):
        return repr(told).replace("'", '"')


if __name__ == "__main__":
    unittest.main()
