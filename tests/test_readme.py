"""The example of README.md gives the answers that stand beside it."""

import re
import unittest
from pathlib import Path

README = Path(__file__).resolve().parent.parent / "README.md"


class Readme(unittest.TestCase):
    def test_example(self):
        code = re.search(r"```python\n(.*?)```", README.read_text(), re.DOTALL).group(1)
        names = {}
        answers = 0
        for line in code.splitlines():
            statement, sign, answer = line.partition("  #")
            if sign:
                self.assertEqual(eval(statement, names), eval(answer.strip()), line)
                answers += 1
            else:
                exec(line, names)
        self.assertGreater(answers, 8)


if __name__ == "__main__":
    unittest.main()
