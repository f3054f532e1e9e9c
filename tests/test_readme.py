"""The examples of README.md: what stands behind a # is what the line gives."""
import ast
import pathlib
import unittest

README = pathlib.Path(__file__).parent.parent / "README.md"


def blocks():
    """The blocks of Python of the file, as lists of lines."""
    for text in README.read_text("ascii").split("```python\n")[1:]:
        yield text.split("```")[0].splitlines()


def value_told(comment):
    """The value with which a comment begins, or Ellipsis if it begins with none."""
    for end in range(len(comment), 0, -1):
        try:
            return ast.literal_eval(comment[:end].strip())
        except (SyntaxError, ValueError):
            continue
    return ...


class Readme(unittest.TestCase):
    def test_examples(self):
        held, told = {}, 0
        for lines in blocks():
            for line in lines:
                code, _, comment = line.partition("#")
                try:
                    tree = ast.parse(code.strip(), mode="eval")
                except SyntaxError:
                    exec(code, held)
                    continue
                found, wanted = eval(compile(tree, "README.md", "eval"), held), value_told(comment.strip())
                if wanted is not ...:
                    told += 1
                    self.assertEqual(found, wanted, line)
        self.assertGreater(told, 40)


if __name__ == "__main__":
    unittest.main()
