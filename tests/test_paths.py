import unittest

from stemshelf.errors import NoPath
from stemshelf.paths import folder_of, is_beneath, path_to, steps_in


class StepsTest(unittest.TestCase):
    def test_the_root(self):
        self.assertEqual(steps_in(""), [])

    def test_paths(self):
        for steps in (["a"], ["0"], ["abcdefgh"], ["12345678"], ["a", "b"], ["a", "a", "a"], ["oak", "9", "z0"],
                      list("abcdefgh"), ["abcdefg" + sign for sign in "01234567"]):
            self.assertEqual(steps_in("/".join(steps)), steps)

    def test_each_sign_of_names(self):
        for code in range(32, 127):
            sign = chr(code)
            if sign in "0123456789abcdefghijklmnopqrstuvwxyz":
                self.assertEqual(steps_in("a/" + sign), ["a", sign])
            elif sign != "/":
                for path in (sign, "a" + sign, "a/" + sign, sign + "/a"):
                    self.refused(path)

    def test_no_paths(self):
        for path in ("/", "/a", "a/", "a//b", "//", "/a/b", "a/b/", "abcdefghi", "a/abcdefghi", "abcdefghi/a",
                     "a/b/c/d/e/f/g/h/i", "a/b/c/d/e/f/g/h/", "/a/b/c/d/e/f/g/h", "A", "a/B", "Oak", "a b", " ", "a ",
                     ".", "a/../b", "a\n", "\xe4", "a/b\xe4", "\u0661"):
            self.refused(path)

    def test_eight_and_nine(self):
        self.assertEqual(steps_in("/".join("a" * 8)), ["a"] * 8)
        self.refused("/".join("a" * 9))
        self.refused("/".join("a" * 20))

    def test_each_time_a_new_list(self):
        for path in ("", "a/b"):
            due = steps_in(path)
            steps_in(path).append("c")
            steps_in(path).clear()
            self.assertEqual(steps_in(path), due)

    def refused(self, path):
        with self.subTest(path):
            with self.assertRaises(NoPath) as caught:
                steps_in(path)
            self.assertEqual(caught.exception.path, path)


class BeneathTest(unittest.TestCase):
    def test_beneath(self):
        for path, other in (("a", ""), ("a/b", ""), ("a/b", "a"), ("a/b/c", "a"), ("a/b/c", "a/b"), ("ab/c", "ab"),
                            ("a/a", "a"), ("/".join("abcdefgh"), "/".join("abcdefg"))):
            self.assertIs(is_beneath(path, other), True, (path, other))
            self.assertIs(is_beneath(other, path), False, (other, path))

    def test_none_beneath_itself(self):
        for path in ("", "a", "ab", "a/b"):
            self.assertIs(is_beneath(path, path), False)

    def test_beside_one_another(self):
        for path, other in (("a", "ab"), ("a", "b"), ("a/b", "ab"), ("a/b", "a/c"), ("a/b", "a/bc"), ("ab/c", "a"),
                            ("a/b/c", "b"), ("b/a", "a"), ("a0", "a")):
            self.assertIs(is_beneath(path, other), False, (path, other))
            self.assertIs(is_beneath(other, path), False, (other, path))


class PartsTest(unittest.TestCase):
    def test_a_name_in_a_folder_and_back(self):
        for folder, name, path in (("", "a", "a"), ("a", "b", "a/b"), ("a/b", "c", "a/b/c")):
            self.assertEqual(path_to(folder, name), path)
            self.assertEqual(folder_of(path), folder)


if __name__ == "__main__":
    unittest.main()
