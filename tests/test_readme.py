"""The examples of README.md."""

import pathlib
import re
import unittest


class Readme(unittest.TestCase):
    def test_examples(self):
        text = (pathlib.Path(__file__).parent.parent / "README.md").read_text(encoding="utf-8")
        names = {}
        for block in re.findall(r"```python\n(.*?)```", text, re.S):
            exec(block, names)
            for shown, value in re.findall(r"^(\w[^#\n]*?) +# ([\[(\d].*)$", block, re.M):
                with self.subTest(shown):
                    self.assertEqual(eval(shown, names), eval(value, names))
                    names["checked"] = names.get("checked", 0) + 1
        self.assertEqual(names["checked"], 22)
