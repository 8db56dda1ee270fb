import pathlib
import re
import unittest

README = pathlib.Path(__file__).resolve().parent.parent / "README.md"


class ReadmeTest(unittest.TestCase):
    def test_what_it_shows_is_so(self):
        shown = re.findall(r"```python\n(.*?)```", README.read_text(encoding="utf-8"), re.DOTALL)
        self.assertNotEqual(shown, [])
        for code in shown:
            exec(code, {})


if __name__ == "__main__":
    unittest.main()
