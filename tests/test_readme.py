import ast
import re
import unittest
from pathlib import Path

README = Path(__file__).resolve().parent.parent / "README.md"


class Readme(unittest.TestCase):
    def test_what_it_tells(self):
        block = re.findall(r"```python\n(.*?)```", README.read_text(), re.S)[0]
        told = {}
        exec(compile(block, "README", "exec"), told)
        rows = re.findall(r"^(\w+\(.*\)) +# ([({\d].*)$", block, re.M)
        self.assertGreater(len(rows), 5)
        for asked, answer in rows:
            self.assertEqual(eval(asked, told), ast.literal_eval(answer))


if __name__ == "__main__":
    unittest.main()
