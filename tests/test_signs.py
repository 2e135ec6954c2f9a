"""Point 1: signs and texts."""

import unittest

from orderrules.errors import BadNumber
from orderrules.signs import is_text, plain_texts
from samples import MANY_TEXTS, SIGNS, WRONG_LENGTHS, WRONG_TEXTS


class Texts(unittest.TestCase):
    def test_ordinary_texts(self):
        for text in MANY_TEXTS:
            with self.subTest(text=text):
                self.assertIs(is_text(text), True)

    def test_blank_text(self):
        self.assertIs(is_text(""), True)

    def test_length(self):
        for sign in "a0_Z":
            self.assertIs(is_text(sign * 40), True)
            self.assertIs(is_text(sign * 41), False)
        self.assertIs(is_text("a" * 1000), False)

    def test_every_sign_and_no_other_one(self):
        self.assertEqual(len(SIGNS), 63)
        for number in list(range(0x500)) + [0x2160, 0xff11, 0xff21, 0xd800, 0x1d7ce]:
            sign = chr(number)
            with self.subTest(number=number):
                self.assertIs(is_text(sign), sign in SIGNS)
                self.assertIs(is_text("a" + sign), sign in SIGNS)
                self.assertIs(is_text(sign + "a"), sign in SIGNS)

    def test_other_values(self):
        for value in WRONG_TEXTS:
            with self.subTest(value=value):
                self.assertIs(is_text(value), False)


class PlainTexts(unittest.TestCase):
    def test_lengths_0_1_2(self):
        self.assertEqual(plain_texts(0), [""])
        self.assertEqual(plain_texts(1), ["0", "1", "A", "B", "_", "a", "b"])
        two = plain_texts(2)
        self.assertEqual(two[:9], ["00", "01", "0A", "0B", "0_", "0a", "0b", "10", "11"])
        self.assertEqual(two[-2:], ["ba", "bb"])

    def test_number_and_order(self):
        for length in range(6):
            texts = plain_texts(length)
            self.assertEqual(len(texts), 7 ** length)
            self.assertEqual(len(set(texts)), 7 ** length)
            self.assertEqual(texts, sorted(texts))
            self.assertTrue(all(len(text) == length for text in texts))
            self.assertTrue(set("".join(texts)) <= set("01AB_ab"))

    def test_wrong_lengths(self):
        for value in WRONG_LENGTHS:
            with self.subTest(value=value):
                with self.assertRaises(BadNumber):
                    plain_texts(value)

    def test_new_at_each_call(self):
        for length in (0, 1, 3):
            texts = plain_texts(length)
            self.assertIs(type(texts), list)
            self.assertIsNot(texts, plain_texts(length))
            texts.append("x")
            texts[0] = "y"
            self.assertEqual(len(plain_texts(length)), 7 ** length)
            self.assertEqual(plain_texts(length)[0], "0" * length)


if __name__ == "__main__":
    unittest.main()
