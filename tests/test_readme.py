"""The examples of README.md print what stands beside them."""

import contextlib
import io
import re
import unittest

from tests.common import ROOT


class Readme(unittest.TestCase):
    def test_examples(self):
        blocks = re.findall(r"```python\n(.*?)```", (ROOT / "README.md").read_text(encoding="utf-8"), re.S)
        self.assertGreater(len(blocks), 8)
        for block in blocks:
            wanted = [line.split("# ")[1].strip() for line in block.split("\n") if "print(" in line and "# " in line]
            told = io.StringIO()
            with contextlib.redirect_stdout(told):
                exec(block, {})
            self.assertEqual(told.getvalue().splitlines(), wanted)


if __name__ == "__main__":
    unittest.main()
