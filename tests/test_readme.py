"""The examples of README.md print what stands beside them."""

import os
import re
import unittest

README = os.path.join(os.path.dirname(os.path.dirname(os.path.abspath(__file__))), "README.md")


class Readme(unittest.TestCase):
    def test_examples(self):
        with open(README, encoding="utf-8") as file:
            blocks = re.findall(r"```python\n(.*?)```", file.read(), re.DOTALL)
        self.assertGreater(len(blocks), 3)
        for block in blocks:
            printed = []
            exec(block, {"print": lambda value: printed.append(str(value))})
            self.assertEqual(printed, re.findall(r"^print\(.*\)  +# (.*)$", block, re.MULTILINE))
