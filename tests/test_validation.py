import unittest

from resampler.ratios import Ratio
from resampler.validation import is_integer, is_name, parse_integer, split_words
from tests.samples import integers, non_integers, non_strings


class Names(unittest.TestCase):
    def test_names(self):
        for name in ["a", "z", "m", "az", "demo", "aaaaaaaa", "zzzzzzzz", "abcdefgh"]:
            self.assertIs(is_name(name), True, name)

    def test_lengths(self):
        for length in range(20):
            self.assertIs(is_name("a" * length), 1 <= length <= 8)
        self.assertIs(is_name("a" * 4000), False)

    def test_every_character(self):
        for code in [10, *range(32, 127)]:
            is_letter = 97 <= code <= 122
            for text in [chr(code), chr(code) + "b", "b" + chr(code), "b" + chr(code) + "b"]:
                self.assertIs(is_name(text), is_letter, text)

    def test_other_strings(self):
        for text in ["", "A", "aB", "a1", "1", " ", "a ", " a", "a b", "\n", "a\n", "\na", "a_", "a-b", "`", "{"]:
            self.assertIs(is_name(text), False, text)

    def test_other_kinds(self):
        for value in non_strings():
            self.assertIs(is_name(value), False, value)

    def test_by_name(self):
        self.assertIs(is_name(value="abc"), True)


class Integers(unittest.TestCase):
    def test_bounds(self):
        for low, high in [(0, 0), (0, 1), (-3, 3), (5, 9), (-9, -5), (-(10 ** 30), 10 ** 30)]:
            for value in [low - 1, low, low + 1, high - 1, high, high + 1, (low + high) // 2, 0]:
                self.assertIs(is_integer(value, low, high), value in range(low, high + 1))

    def test_low_greater_than_high(self):
        for value in [-1, 0, 1, 2, 3, 4]:
            self.assertIs(is_integer(value, 3, 1), False)

    def test_long_integers(self):
        great = 10 ** 3999
        self.assertIs(is_integer(great, 0, great), True)
        self.assertIs(is_integer(great, 0, great - 1), False)
        self.assertIs(is_integer(-great, -great, 0), True)

    def test_true_and_false(self):
        for value in [True, False]:
            self.assertIs(is_integer(value, 0, 1), False)
            self.assertIs(is_integer(value, -5, 5), False)

    def test_other_kinds(self):
        for value in non_integers():
            self.assertIs(is_integer(value, -(10 ** 30), 10 ** 30), False, value)

    def test_by_name(self):
        self.assertIs(is_integer(value=3, low=3, high=4), True)
        self.assertIs(is_integer(2, high=1, low=0), False)


class ParsedIntegers(unittest.TestCase):
    def test_example(self):
        self.assertEqual([parse_integer("40", high=50), parse_integer("07")], [40, None])

    def test_digits(self):
        for text in ["0", "1", "5", "9", "10", "40", "99", "100", "123456", "999999", "908070"]:
            self.assertEqual(parse_integer(text), int(text))
            self.assertIs(type(parse_integer(text)), int)

    def test_leading_zeros(self):
        for text in ["00", "000", "07", "007", "010", "00000001"]:
            self.assertIsNone(parse_integer(text))

    def test_other_texts(self):
        for text in ["", "+1", "-1", "-0", "+0", "1-", " 1", "1 ", "1 2", " ", "\n", "1\n", "\n1", "1\n2", "a", "1a",
                     "a1", "1_0", "1.0", "1e3", "0x1", "1/2", "1,2", "0-", "0a", "0 "]:
            self.assertIsNone(parse_integer(text), text)
            self.assertIsNone(parse_integer(text, low=-100), text)

    def test_every_character(self):
        for code in [10, *range(32, 127)]:
            expected = code - 48 if 48 <= code <= 57 else None
            self.assertEqual(parse_integer(chr(code)), expected)
            self.assertEqual(parse_integer("1" + chr(code)), None if expected is None else 10 + expected)

    def test_defaults(self):
        self.assertEqual(parse_integer("0"), 0)
        self.assertEqual(parse_integer("999999"), 999999)
        self.assertIsNone(parse_integer("1000000"))
        self.assertIsNone(parse_integer("9999999"))

    def test_low_alone(self):
        self.assertEqual([parse_integer(text, low=5) for text in ["4", "5", "6"]], [None, 5, 6])
        self.assertEqual(parse_integer("999999", low=999999), 999999)
        self.assertIsNone(parse_integer("1000000", low=1000000))

    def test_high_alone(self):
        self.assertEqual([parse_integer(text, high=10) for text in ["9", "10", "11"]], [9, 10, None])
        self.assertEqual([parse_integer(text, high=0) for text in ["0", "1"]], [0, None])
        self.assertEqual(parse_integer("1000000", high=1000000), 1000000)

    def test_both_bounds(self):
        texts = ["98", "99", "100", "101", "102"]
        self.assertEqual([parse_integer(text, low=99, high=101) for text in texts], [None, 99, 100, 101, None])
        self.assertEqual([parse_integer(text, high=99, low=101) for text in texts], [None] * 5)

    def test_negative_bounds(self):
        self.assertEqual([parse_integer(text, low=-5) for text in ["0", "3", "-3", "1000000"]], [0, 3, None, None])
        self.assertEqual([parse_integer(text, high=-1) for text in ["0", "1", "-1", "12"]], [None] * 4)
        self.assertEqual([parse_integer(text, low=-9, high=-1) for text in ["0", "5", "-5", "12345"]], [None] * 4)

    def test_long_texts(self):
        for length in [7, 30, 300, 3999, 4000]:
            text = "9" * length
            self.assertIsNone(parse_integer(text))
            self.assertIsNone(parse_integer("0" * length))
            self.assertIsNone(parse_integer(text + "a"))
            self.assertEqual(parse_integer(text, high=10 ** length), 10 ** length - 1)
            self.assertEqual(parse_integer(text, high=10 ** length - 1), 10 ** length - 1)
            self.assertIsNone(parse_integer(text, high=10 ** length - 2))
            self.assertIsNone(parse_integer(text, low=10 ** length, high=10 ** length))

    def test_longer_texts(self):
        self.assertIsNone(parse_integer("1" * 5000))
        self.assertIsNone(parse_integer("1" * 5000, low=-1, high=10 ** 4000))
        self.assertEqual(parse_integer("12", high=10 ** 5000), 12)

    def test_other_kinds(self):
        for value in non_strings():
            self.assertIsNone(parse_integer(value), value)
            self.assertIsNone(parse_integer(value, low=-10, high=10), value)

    def test_by_name(self):
        self.assertEqual(parse_integer(text="3", low=3, high=3), 3)
        with self.assertRaises(TypeError):
            parse_integer("3", 0)


class Words(unittest.TestCase):
    def test_example(self):
        self.assertEqual(split_words("tape a 0"), ["tape", "a", "0"])

    def test_words(self):
        for words in [["a"], ["abc"], ["A", "b"], ["/", "x", "/"], [":", "0,1"], ["-", "1/2", "~!"], ["a"] * 2000]:
            self.assertEqual(split_words(" ".join(words)), words)

    def test_two_spaces(self):
        for text in ["a  b", "a b  c", "a   b", "  ", "   "]:
            self.assertIsNone(split_words(text), text)

    def test_space_at_an_end(self):
        for text in [" a", "a ", " a ", " ", " a b", "a b "]:
            self.assertIsNone(split_words(text), text)

    def test_line_feeds(self):
        for text in ["\n", "\na", "a\n", "a\nb", "a \n b", "a b\n", "a b\nc d", " \n", "\n\n"]:
            self.assertIsNone(split_words(text), text)

    def test_empty_string(self):
        self.assertIsNone(split_words(""))

    def test_other_kinds(self):
        for value in non_strings():
            self.assertIsNone(split_words(value), value)

    def test_new_list_on_each_call(self):
        text = "a b"
        words = split_words(text)
        words.append("c")
        again = split_words(text)
        self.assertIs(type(again), list)
        self.assertIsNot(again, words)
        self.assertEqual(again, ["a", "b"])

    def test_by_name(self):
        self.assertEqual(split_words(text="a b"), ["a", "b"])


class ArgumentsStay(unittest.TestCase):
    def test_containers_are_not_modified(self):
        for check in [is_name, split_words, parse_integer, lambda value: is_integer(value, 0, 9)]:
            items, table = ["a", [1]], {"a": [1]}
            for value in [items, table, (items, table)]:
                check(value)
            self.assertEqual([items, table], [["a", [1]], {"a": [1]}])

    def test_results_are_arguments_again(self):
        number = parse_integer("9" * 4000, high=10 ** 4000)
        self.assertIs(is_integer(number, 0, number), True)
        self.assertEqual(Ratio(number).num(), number)
        for value in integers():
            self.assertIs(is_integer(value, value, value), True)


if __name__ == "__main__":
    unittest.main()
