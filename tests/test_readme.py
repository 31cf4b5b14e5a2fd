"""The examples of README.md print what stands behind them."""

import contextlib
import io
import re
import unittest
from pathlib import Path

README = Path(__file__).resolve().parent.parent / "README.md"


class Examples(unittest.TestCase):
    def test_each_line_that_prints(self):
        examples = re.findall(r"```python\n(.*?)```", README.read_text(encoding="utf-8"), re.DOTALL)
        self.assertGreaterEqual(len(examples), 2)
        for example in examples:
            printed = io.StringIO()
            with contextlib.redirect_stdout(printed):
                exec(example, {})
            # A colon behind what is printed begins a remark.
            told = re.findall(r"^print\(.*\)  +# (.*)$", example, re.MULTILINE)
            expected = [line.split(":")[0].strip() for line in told]
            self.assertEqual(printed.getvalue().splitlines(), expected)


if __name__ == "__main__":
    unittest.main()
