import ast
import re
import unittest
from pathlib import Path

README = Path(__file__).resolve().parent.parent / "README.md"


class Readme(unittest.TestCase):
    def test_what_it_tells(self):
        block = re.findall(r"```python\n(.*?)```", README.read_text(), re.S)[0]
        told = {}
        exec(compile(block, "README", "exec"), told)
        rows = re.findall(r"^(\w+\(.*\)) +# ([({\d].*)$", block, re.M)
        self.assertGreater(len(rows), 5)
        for asked, answer in rows:
            self.assertEqual(eval(asked, told), ast.literal_eval(answer))

    def test_units_and_desks(self):
        first, second = re.findall(r"```python\n(.*?)```", README.read_text(), re.S)[:2]
        told = {}
        exec(compile(first, "README", "exec"), told)
        exec(compile(second, "README", "exec"), told)
        self.assertEqual([row[0] for row in told["unit"].deeds()], ["pin", "add_deed"])
        desk = told["Desk"]()
        for asked, answer in re.findall(r'^desk\.say\((".*")\) +# (".*")$', second, re.M):
            self.assertEqual(desk.say(ast.literal_eval(asked)), ast.literal_eval(answer))


if __name__ == "__main__":
    unittest.main()
