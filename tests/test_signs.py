import unittest

from stemshelf.signs import number_of, sign_of


class SignsTest(unittest.TestCase):
    def test_numbers_that_the_document_names(self):
        for sign, number in ((" ", 0), ("!", 1), ("$", 4), ("&", 5), ("~", 93)):
            with self.subTest(sign):
                self.assertEqual(number_of(sign), number)
                self.assertEqual(sign_of(number), sign)

    def test_all_signs_in_turn_without_the_percent_sign(self):
        due = [chr(code) for code in range(ord(" "), ord("~") + 1) if chr(code) != "%"]
        self.assertEqual(len(due), 94)
        self.assertEqual([sign_of(number) for number in range(94)], due)
        self.assertEqual([number_of(sign) for sign in due], list(range(94)))

    def test_the_percent_sign_is_none_of_them(self):
        self.assertNotIn("%", [sign_of(number) for number in range(94)])

    def test_there_and_back(self):
        for number in range(94):
            self.assertEqual(number_of(sign_of(number)), number)


if __name__ == "__main__":
    unittest.main()
