import unittest
from fractions import Fraction

from resampler.errors import InvalidInteger, InvalidRatio, InvalidText
from resampler.ratios import Ratio, parse_ratio, ratio_product, ratio_sum
from tests.samples import integers, non_integers, non_ratios, non_strings

THIRTY_DIGITS = 10 ** 30 - 1
LONG = 7 ** 900
PARTS = [(0, 1), (1, 1), (-1, 1), (1, 2), (-1, 2), (2, 3), (-9, 2), (3, 4), (5, 1), (-7, 1),
         (THIRTY_DIGITS, 10 ** 29 + 7), (-THIRTY_DIGITS, 2), (1, THIRTY_DIGITS), (LONG, 2 ** 1500)]


def parts(ratio):
    return ratio.num(), ratio.den()


def fraction(ratio):
    return Fraction(ratio.num(), ratio.den())


class RatioTest(unittest.TestCase):
    def assert_ratio(self, ratio, expected):
        """Check the kind, the value and the form of a Ratio against a Fraction."""
        self.assertIs(type(ratio), Ratio)
        self.assertEqual(parts(ratio), (expected.numerator, expected.denominator))
        self.assertIs(type(ratio.num()), int)
        self.assertIs(type(ratio.den()), int)

    def assert_field(self, kind, field, action, *arguments, **more):
        """Check that a call raises an exception with this very object in its field."""
        with self.assertRaises(kind) as context:
            action(*arguments, **more)
        self.assertIs(type(context.exception), kind)
        self.assertIs(context.exception.value, field)


class Building(RatioTest):
    def test_example(self):
        half = Ratio(2, -4)
        self.assertEqual([half.num(), half.den(), half.sign(), str(half)], [-1, 2, -1, "-1/2"])

    def test_lowest_terms(self):
        for numerator in range(-12, 13):
            for denominator in [*range(-12, 0), *range(1, 13)]:
                self.assert_ratio(Ratio(numerator, denominator), Fraction(numerator, denominator))

    def test_zero(self):
        for denominator in [1, -1, 2, -2, 30, -THIRTY_DIGITS, THIRTY_DIGITS]:
            zero = Ratio(0, denominator)
            self.assertEqual([zero.num(), zero.den(), zero.sign(), str(zero)], [0, 1, 0, "0"])

    def test_denominator_omitted(self):
        for number in integers():
            self.assertEqual(parts(Ratio(number)), (number, 1))

    def test_many_digits(self):
        great = THIRTY_DIGITS
        self.assertEqual(parts(Ratio(great, great)), (1, 1))
        self.assertEqual(parts(Ratio(-great, great)), (-1, 1))
        self.assertEqual(parts(Ratio(great * 6, great * -4)), (-3, 2))
        self.assertEqual(parts(Ratio(great, great - 1)), (great, great - 1))
        self.assertEqual(parts(Ratio(great, 3)), (great // 3, 1))
        self.assertEqual(parts(Ratio(LONG * 2, 14)), (LONG // 7, 1))

    def test_by_name(self):
        self.assertEqual(parts(Ratio(numerator=2, denominator=-4)), (-1, 2))
        self.assertEqual(parts(Ratio(denominator=4, numerator=2)), (1, 2))
        self.assertEqual(parts(Ratio(6, denominator=4)), (3, 2))
        self.assertEqual(parts(Ratio(numerator=6)), (6, 1))

    def test_numerator_is_not_an_integer(self):
        for value in non_integers():
            self.assert_field(InvalidInteger, value, Ratio, value)
            self.assert_field(InvalidInteger, value, Ratio, value, 2)

    def test_numerator_is_checked_first(self):
        for value in non_integers():
            for denominator in [0, None, True, "1", Ratio(1)]:
                self.assert_field(InvalidInteger, value, Ratio, value, denominator)

    def test_denominator_is_not_an_integer(self):
        for value in non_integers():
            for numerator in [0, 1, -3]:
                self.assert_field(InvalidInteger, value, Ratio, numerator, value)

    def test_denominator_zero(self):
        for numerator in integers():
            with self.assertRaises(InvalidRatio) as context:
                Ratio(numerator, 0)
            self.assertEqual(context.exception.value, (numerator, 0))
            self.assertIs(type(context.exception.value), tuple)
            self.assertIs(context.exception.value[0], numerator)


class Reading(RatioTest):
    def test_sign(self):
        self.assertEqual([Ratio(n, d).sign() for n, d in [(3, 5), (-3, 5), (3, -5), (-3, -5), (0, 5)]],
                         [1, -1, -1, 1, 0])
        self.assertEqual([Ratio(1).sign(), Ratio(-1).sign(), Ratio(1, 2).sign(), Ratio(-1, 2).sign()], [1, -1, 1, -1])
        self.assertEqual([Ratio(THIRTY_DIGITS).sign(), Ratio(-THIRTY_DIGITS).sign()], [1, -1])

    def test_str(self):
        for arguments, text in [((3,), "3"), ((-3,), "-3"), ((0,), "0"), ((6, 3), "2"), ((6, -3), "-2"),
                                ((1, 2), "1/2"), ((-1, 2), "-1/2"), ((4, -6), "-2/3"), ((0, -9), "0"),
                                ((1, THIRTY_DIGITS), "1/" + "9" * 30)]:
            self.assertEqual(str(Ratio(*arguments)), text)

    def test_repr(self):
        for numerator, denominator in PARTS:
            self.assertIsInstance(repr(Ratio(numerator, denominator)), str)

    def test_equal_ratios(self):
        for numerator, denominator in PARTS:
            for factor in [1, -1, 3, -THIRTY_DIGITS]:
                one, other = Ratio(numerator, denominator), Ratio(numerator * factor, denominator * factor)
                self.assertIs(one == other, True)
                self.assertIs(one != other, False)

    def test_other_ratios(self):
        for one in PARTS:
            for other in PARTS:
                self.assertIs(Ratio(*one) == Ratio(*other), one == other)
                self.assertIs(Ratio(*one) != Ratio(*other), one != other)
        self.assertFalse(Ratio(1, 2) == Ratio(1, 3))
        self.assertFalse(Ratio(1, 2) == Ratio(-1, 2))
        self.assertFalse(Ratio(1, 2) == Ratio(3, 2))

    def test_other_kinds(self):
        for value in non_ratios():
            for ratio in [Ratio(0), Ratio(1), Ratio(2), Ratio(1, 2)]:
                self.assertIs(ratio == value, False)
                self.assertIs(value == ratio, False)
                self.assertIs(ratio != value, True)
        self.assertIs(Ratio(2) == 2, False)
        self.assertIs(Ratio(1) == True, False)  # noqa: E712
        self.assertIs(Ratio(0) == False, False)  # noqa: E712
        self.assertIs(Ratio(1, 2) == (1, 2), False)
        self.assertIs(Ratio(1, 2) == "1/2", False)


class Operations(RatioTest):
    def test_examples(self):
        self.assertEqual(str(Ratio(3, 4).divide(Ratio(-9, 2))), "-1/6")
        self.assertEqual([Ratio(1, 3).less_than(Ratio(1, 2)), Ratio(1, 2) == Ratio(2, 4), Ratio(2) == 2],
                         [True, True, False])

    def test_all_pairs(self):
        for first in PARTS:
            for second in PARTS:
                one, other = Ratio(*first), Ratio(*second)
                left, right = Fraction(*first), Fraction(*second)
                self.assert_ratio(one.add(other), left + right)
                self.assert_ratio(one.subtract(other), left - right)
                self.assert_ratio(one.multiply(other), left * right)
                self.assertIs(one.less_than(other), left < right)
                if right != 0:
                    self.assert_ratio(one.divide(other), left / right)
                self.assertEqual([parts(one), parts(other)], [first, second])

    def test_one_object_as_both_operands(self):
        ratio = Ratio(-2, 3)
        self.assertEqual(parts(ratio.add(ratio)), (-4, 3))
        self.assertEqual(parts(ratio.subtract(ratio)), (0, 1))
        self.assertEqual(parts(ratio.multiply(ratio)), (4, 9))
        self.assertEqual(parts(ratio.divide(ratio)), (1, 1))
        self.assertIs(ratio.less_than(ratio), False)
        self.assertEqual(parts(ratio), (-2, 3))

    def test_results_as_operands(self):
        total, expected = Ratio(1, 3), Fraction(1, 3)
        for number in range(1, 30):
            step = Ratio(number, number + 1)
            total = total.multiply(step).add(total).subtract(step).divide(step)
            ratio = Fraction(number, number + 1)
            expected = (expected * ratio + expected - ratio) / ratio
            self.assert_ratio(total, expected)
            self.assertIs(total.less_than(step), expected < ratio)

    def test_by_name(self):
        one, other = Ratio(1, 2), Ratio(1, 3)
        results = [one.add(other=other), one.subtract(other=other), one.multiply(other=other),
                   one.divide(other=other)]
        self.assertEqual([str(result) for result in results], ["5/6", "1/6", "1/6", "3/2"])
        self.assertIs(one.less_than(other=other), False)

    def test_other_is_not_a_ratio(self):
        for value in non_ratios():
            for ratio in [Ratio(0), Ratio(1, 2)]:
                for action in [ratio.add, ratio.subtract, ratio.multiply, ratio.divide, ratio.less_than]:
                    self.assert_field(InvalidRatio, value, action, value)
                self.assertIn(parts(ratio), [(0, 1), (1, 2)])

    def test_division_by_zero(self):
        for numerator, denominator in PARTS:
            for zero in [Ratio(0), Ratio(0, -5), Ratio(1, 2).subtract(Ratio(1, 2))]:
                self.assert_field(InvalidRatio, zero, Ratio(numerator, denominator).divide, zero)


class SumsAndProducts(RatioTest):
    def test_empty(self):
        for empty in [[], ()]:
            self.assert_ratio(ratio_sum(empty), Fraction(0))
            self.assert_ratio(ratio_product(empty), Fraction(1))
            self.assert_ratio(ratio_sum(empty, start=Ratio(2, 3)), Fraction(2, 3))

    def test_lists_and_tuples(self):
        for pairs in [[(1, 2)], [(1, 2), (1, 3)], [(-1, 2), (1, 2)], [(3, 4), (-9, 2), (5, 1)], [(0, 1), (4, 7)]]:
            values = [Ratio(*pair) for pair in pairs]
            total, result = Fraction(0), Fraction(1)
            for pair in pairs:
                total, result = total + Fraction(*pair), result * Fraction(*pair)
            for given in [values, tuple(values)]:
                self.assert_ratio(ratio_sum(given), total)
                self.assert_ratio(ratio_product(given), result)
                self.assert_ratio(ratio_sum(given, start=None), total)
                self.assert_ratio(ratio_sum(given, start=Ratio(-5, 6)), total - Fraction(5, 6))

    def test_long_lists(self):
        values = [Ratio(number, number + 1) for number in range(1, 111)]
        self.assert_ratio(ratio_sum(values), sum(fraction(value) for value in values))
        self.assert_ratio(ratio_product(values), Fraction(1, 111))
        self.assert_ratio(ratio_sum([Ratio(1, 600)] * 600), Fraction(1))
        self.assert_ratio(ratio_product([Ratio(-2)] * 601), Fraction(-(2 ** 601)))

    def test_by_name(self):
        self.assertEqual(str(ratio_sum(values=[Ratio(1)], start=Ratio(2))), "3")
        self.assertEqual(str(ratio_sum(start=Ratio(2), values=[])), "2")
        self.assertEqual(str(ratio_product(values=[Ratio(2), Ratio(3)])), "6")
        with self.assertRaises(TypeError):
            ratio_sum([], Ratio(1))

    def test_not_a_list(self):
        for value in non_ratios() + [Ratio(1)]:
            if not isinstance(value, (list, tuple)):
                self.assert_field(InvalidRatio, value, ratio_sum, value)
                self.assert_field(InvalidRatio, value, ratio_sum, value, start=1)
                self.assert_field(InvalidRatio, value, ratio_product, value)

    def test_item_that_is_not_a_ratio(self):
        for value in non_ratios():
            for items in [[value], [Ratio(1), value], [value, None], [Ratio(0), value, Ratio(1), 3]]:
                for given in [items, tuple(items)]:
                    self.assert_field(InvalidRatio, value, ratio_sum, given)
                    self.assert_field(InvalidRatio, value, ratio_sum, given, start=Ratio(1))
                    self.assert_field(InvalidRatio, value, ratio_sum, given, start="wrong")
                    self.assert_field(InvalidRatio, value, ratio_product, given)

    def test_start_that_is_not_a_ratio(self):
        for value in non_ratios():
            if value is not None:
                for items in [[], (), [Ratio(1)], [Ratio(1), Ratio(-1)]]:
                    self.assert_field(InvalidRatio, value, ratio_sum, items, start=value)

    def test_arguments_stay(self):
        one, other, start = Ratio(1, 2), Ratio(-3, 4), Ratio(5)
        values = [one, other]
        ratio_sum(values)
        ratio_sum(values, start=start)
        ratio_product(values)
        self.assertEqual(len(values), 2)
        self.assertIs(values[0], one)
        self.assertIs(values[1], other)
        self.assertEqual([parts(one), parts(other), parts(start)], [(1, 2), (-3, 4), (5, 1)])
        broken = [one, 3]
        self.assert_field(InvalidRatio, broken[1], ratio_sum, broken)
        self.assertEqual(broken, [one, 3])


class Texts(RatioTest):
    def test_examples(self):
        self.assertEqual(parse_ratio("-3/7").num(), -3)
        with self.assertRaises(InvalidText) as context:
            parse_ratio("2/4")
        self.assertEqual(context.exception.value, "2/4")

    def test_valid_texts(self):
        for text, expected in [("0", (0, 1)), ("1", (1, 1)), ("-1", (-1, 1)), ("10", (10, 1)), ("1/2", (1, 2)),
                               ("-1/2", (-1, 2)), ("-3/7", (-3, 7)), ("22/7", (22, 7)), ("1/10", (1, 10)),
                               ("1000000/999999", (1000000, 999999)), ("9" * 30, (THIRTY_DIGITS, 1))]:
            self.assertIs(type(parse_ratio(text)), Ratio)
            self.assertEqual(parts(parse_ratio(text)), expected)

    def test_str_is_read_back(self):
        for numerator, denominator in PARTS:
            ratio = Ratio(numerator, denominator)
            self.assertEqual(parse_ratio(str(ratio)), ratio)
        for numerator in range(-30, 31):
            for denominator in range(1, 31):
                ratio = Ratio(numerator, denominator)
                self.assertEqual(parse_ratio(str(ratio)), ratio)

    def test_many_digits_are_read_back(self):
        for exponent in [100, 500, 1000, 3999]:
            for ratio in [Ratio(10 ** exponent, 3 ** exponent), Ratio(-(10 ** exponent)), Ratio(1, 10 ** exponent),
                          Ratio(1 - 10 ** exponent, 10 ** exponent)]:
                self.assertEqual(parse_ratio(str(ratio)), ratio)
                self.assertEqual(str(parse_ratio(str(ratio))), str(ratio))

    def test_invalid_texts(self):
        for text in ["", "+1", "+1/2", "1/+2", "01", "-01", "00", "01/2", "1/02", "-1/02", "00/1", " ", " 1", "1 ",
                     "1 /2", "1/ 2", "1 / 2", "- 1", "1/2 ", " 1/2", "\n", "1\n", "\n1", "1/2\n", "1\n/2", "-0",
                     "-0/1", "-0/2", "0/1", "0/2", "1/1", "-1/1", "3/1", "10/1", "2/2", "2/4", "-2/4", "4/6", "100/10",
                     "1/0", "0/0", "-1/0", "1/00", "1/-2", "-1/-2", "0/-1", "--1", "-", "--", "1-", "/", "-/", "1/",
                     "-1/", "/2", "-/2", "1//2", "1/2/3", "1/2/", "a", "x/y", "1/a", "a/2", "1a", "0.5", "1.0", "1e2",
                     "1_0", "1_0/3", "3/1_0", "0x1", "1,2", "1:2", "None", "True", "9" * 30 + "/" + "3" * 30]:
            self.assert_field(InvalidText, text, parse_ratio, text)

    def test_long_invalid_texts(self):
        for text in ["0" * 4000, "0" + "1" * 3999, "1" * 3999 + "a", "1/" + "0" * 3998, "2/" + "4" * 3998, "/" * 4000]:
            self.assert_field(InvalidText, text, parse_ratio, text)

    def test_every_character(self):
        for code in [10, *range(32, 127)]:
            sign = chr(code)
            for text in [sign + "1", "1" + sign, "1/" + sign + "3", "1/3" + sign]:
                if not sign.isdigit() and text != "-1":
                    self.assert_field(InvalidText, text, parse_ratio, text)

    def test_other_kinds(self):
        for value in non_strings():
            self.assert_field(InvalidText, value, parse_ratio, value)

    def test_by_name(self):
        self.assertEqual(parse_ratio(text="5/3"), Ratio(5, 3))


if __name__ == "__main__":
    unittest.main()
