import itertools
import math
import types
import unittest

from enoughtests import families
from enoughtests.families import family, family_count, merge_needed, merge_tests, needed_count, nth_shape
from enoughtests.families import row_of_shape, shape_number, shape_of
from enoughtests.orders import Order, chains

from helping import ProgramTest, all_firsts, all_words, count_events, fitting, plain_needed, plain_uncovered
from helping import plain_words, wrong_firsts, wrong_sizes, wrong_values


def first_of_family(**given):
    """Asks for the first row of a family."""
    return next(family(**given))


def shape_plainly(word):
    """The shape of a word, found by pairing again and again what stands next to each other."""
    signs = word.replace("1", "(").replace("0", ")")
    paired = {}
    while True:
        left = [line for line in range(len(word)) if line not in paired]
        found = [(a, b) for a, b in zip(left, left[1:]) if (signs[a], signs[b]) == ("(", ")")]
        if not found:
            return "".join(paired.get(line, ".") for line in range(len(word)))
        for a, b in found:
            paired[a], paired[b] = "(", ")"


def shapes_plainly(size, first):
    """The shapes of a family in ascending order, found by going through all words."""
    most = size if first is None else first
    return sorted(shape for shape in {shape_plainly(word) for word in all_words(size)} if 1 <= shape.count("(") <= most)


def row_plainly(shape):
    """The row of a shape, made by counting the lines with lesser items."""
    kinds = [").(".index(sign) for sign in shape]
    return tuple(sum((other, at) < (kind, line) for at, other in enumerate(kinds)) for line, kind in enumerate(kinds))


def told_first(first):
    return {} if first is None else {"first": first}


class Examples(unittest.TestCase):
    def test_examples_of_the_interface(self):
        self.assertEqual(
            [needed_count(3), needed_count(60), family_count(4), family_count(10, first=2), shape_of("0110100")],
            [4, 1152921504606846915, 5, 44, ".(()())"])
        self.assertEqual(
            [list(family(3)), families.test_of("0110100"), nth_shape(4, 0), shape_number("..()"),
             len(merge_tests(30, 2))],
            [[(2, 0, 1), (1, 2, 0)], (3, 4, 5, 0, 6, 1, 2), "(())", 4, 2])


class Point43(ProgramTest):
    def test_needed_words_are_counted(self):
        for size in range(1, 9):
            for first in all_firsts(size):
                self.assertEqual(needed_count(size, **told_first(first)), len(plain_needed(Order(size), first)))

    def test_great_sizes(self):
        self.assertEqual(needed_count(60, first=1), 59)
        self.assertEqual(needed_count(60, first=59), 2 ** 60 - 61)
        self.assertEqual(needed_count(60, first=2), 59 + 30 * 59 - 1)
        self.assertEqual([needed_count(size) for size in range(1, 61)], [2 ** size - size - 1 for size in range(1, 61)])

    def test_family_counts(self):
        for size in range(1, 61):
            for first in all_firsts(size):
                expected = math.comb(size, min(size if first is None else first, size // 2)) - 1
                self.assertEqual(family_count(size, **told_first(first)), expected)
        self.assertEqual([family_count(1), family_count(2), family_count(60)], [0, 1, math.comb(60, 30) - 1])

    def test_family_counts_are_numbers_of_shapes(self):
        for size in range(1, 9):
            for first in all_firsts(size):
                self.assertEqual(family_count(size, **told_first(first)), len(shapes_plainly(size, first)))

    def test_by_name_and_exceptions(self):
        self.assertEqual((needed_count(first=1, size=3), family_count(first=1, size=3)), (2, 2))
        for call in [needed_count, family_count]:
            for value in wrong_sizes():
                self.assert_raises("InvalidSize", value, call, value)
            for value in wrong_firsts(3):
                self.assert_raises("InvalidFirst", value, call, 3, first=value)
            self.assert_due(call, {"size": 3, "first": 3}, ("InvalidSize", {"size": 0}), ("InvalidFirst", {"first": 4}))
            with self.assertRaises(TypeError):
                call(3, 1)


class Point44(ProgramTest):
    def test_shapes_of_all_words_of_small_sizes(self):
        for size in range(1, 11):
            for word in all_words(size):
                self.assertEqual(shape_of(word), shape_plainly(word))

    def test_shapes_of_size_sixty(self):
        for word, shape in [("10" * 30, "()" * 30), ("1" * 30 + "0" * 30, "(" * 30 + ")" * 30),
                            ("0" * 30 + "1" * 30, "." * 60), ("1" * 59 + "0", "." * 58 + "()"),
                            ("1" + "0" * 59, "()" + "." * 58), ("01" * 30, "." + "()" * 29 + ".")]:
            self.assertEqual(shape_of(word=word), shape)

    def test_exceptions(self):
        for value in [*wrong_values(), 0, 10, ["10"], ("1", "0"), "1 0", "()", "0" * 61]:
            self.assert_raises("InvalidWord", value, shape_of, value)


class Point45(ProgramTest):
    def test_rows_of_all_shapes_of_small_sizes(self):
        for size in range(1, 11):
            for shape in ["." * size, *shapes_plainly(size, None)]:
                row = row_of_shape(shape)
                self.assertIs(type(row), tuple)
                self.assertEqual(row, row_plainly(shape))

    def test_all_other_strings_are_no_shapes(self):
        for size in range(1, 8):
            right = ["." * size, *shapes_plainly(size, None)]
            for signs in itertools.product("().", repeat=size):
                shape = "".join(signs)
                if shape not in right:
                    self.assert_raises("InvalidShape", shape, row_of_shape, shape)
                    self.assert_raises("InvalidShape", shape, shape_number, shape)

    def test_other_values_are_no_shapes(self):
        for value in [*wrong_values(), 0, "01", "10", "0.", "(0)", "1)", "(.)", ")(", "(", "()" * 31, "." * 61, "[]",
                      "()\n", " ()", "( )", ["()"], ("(", ")"), ["(", ")"]]:
            with self.subTest(value=value):
                self.assert_raises("InvalidShape", value, row_of_shape, value)
                self.assert_raises("InvalidShape", value, shape_number, value)

    def test_tests_of_words(self):
        for size in range(1, 10):
            rows = {}
            for word in all_words(size):
                if list(word) == sorted(word):
                    self.assert_raises("SortedWord", word, families.test_of, word)
                else:
                    row = families.test_of(word)
                    self.assertEqual(row, row_plainly(shape_plainly(word)))
                    self.assertIn(word, plain_words(row))
                    rows[row] = True
            self.assertEqual(len(rows), family_count(size))

    def test_the_tests_of_the_needed_words_are_enough(self):
        for size in range(1, 9):
            for first in all_firsts(size):
                rows = {families.test_of(word) for word in plain_needed(Order(size), first)}
                self.assertEqual(len(rows), family_count(size, **told_first(first)))
                self.assertEqual(plain_uncovered(Order(size), sorted(rows), first), [])

    def test_size_sixty(self):
        self.assertEqual(row_of_shape("()" * 30), tuple(line // 2 + 30 * (line % 2 == 0) for line in range(60)))
        self.assertEqual(row_of_shape(shape="." * 60), tuple(range(60)))
        self.assertEqual(families.test_of(word="1" * 59 + "0"), (*range(1, 59), 59, 0))

    def test_exceptions(self):
        for value in [*wrong_values(), 0, 10, ["10"], ("1", "0"), "1 0", "()", "0" * 61]:
            self.assert_raises("InvalidWord", value, families.test_of, value)
        for word in ["0", "1", "01", "0" * 60, "1" * 60, "0" * 30 + "1" * 30]:
            self.assert_raises("SortedWord", word, families.test_of, word)


class Point46(ProgramTest):
    def test_families_of_small_sizes(self):
        for size in range(1, 10):
            for first in all_firsts(size):
                shapes = shapes_plainly(size, first)
                told = told_first(first)
                self.assertEqual(list(family(size, **told)), [row_plainly(shape) for shape in shapes])
                self.assertEqual([nth_shape(size, at, **told) for at in range(len(shapes))], shapes)
                self.assertEqual([shape_number(shape, **told) for shape in shapes], list(range(len(shapes))))

    def test_families_are_enough(self):
        for size in range(1, 9):
            for first in all_firsts(size):
                self.assertEqual(plain_uncovered(Order(size), list(family(size, **told_first(first))), first), [])

    def test_a_family_is_a_generator_that_makes_each_row_when_it_is_asked_for(self):
        self.assertIsInstance(family(60), types.GeneratorType)
        rows = family(60)
        self.assertEqual(next(rows), row_plainly("(" * 30 + ")" * 30))
        self.assertEqual(next(rows), row_plainly("(" * 29 + ")()" + ")" * 28))
        self.assertLess(count_events(lambda: list(itertools.islice(family(60), 10))), 10 ** 5)
        self.assertEqual(list(family(60, first=1)), [row_plainly(shape) for shape in sorted(
            "." * line + "()" + "." * (58 - line) for line in range(59))])
        self.assertEqual(next(family(2)), (1, 0))
        self.assertEqual(list(family(1)), [])

    def test_to_and_fro_at_size_sixty(self):
        for first in [None, 1, 2, 3, 29, 30, 31, 60]:
            told = told_first(first)
            count = family_count(60, **told)
            numbers = [0, 1, 2, count // 3, count // 2, count - 3, count - 2, count - 1]
            shapes = [nth_shape(60, number, **told) for number in numbers]
            self.assertEqual([shape_number(shape, **told) for shape in shapes], numbers)
            self.assertEqual(shapes, sorted(shapes))
            for shape in shapes:
                self.assertEqual(shape_plainly(shape.translate({40: "1", 41: "0", 46: "0"})), shape)
                self.assertIn(shape.count("("), range(1, (60 if first is None else first) + 1))
        self.assertEqual(nth_shape(60, 0), "(" * 30 + ")" * 30)
        self.assertEqual(nth_shape(60, 0, first=2), "(())" + "." * 56)
        self.assertEqual(nth_shape(60, math.comb(60, 30) - 2), "." * 58 + "()")
        self.assertEqual(shape_number("." * 58 + "()"), math.comb(60, 30) - 2)
        self.assertEqual(shape_number("()" + "." * 58, first=1), 0)

    def test_neighbours_at_size_sixty(self):
        for first in [None, 4, 17]:
            told = told_first(first)
            middle = family_count(60, **told) // 7
            shapes = [nth_shape(60, middle + more, **told) for more in range(200)]
            self.assertEqual(shapes, sorted(set(shapes)))
            self.assertEqual([shape_number(shape, **told) for shape in shapes], list(range(middle, middle + 200)))

    def test_neither_goes_through_the_shapes_ahead(self):
        number = family_count(60) - 1
        self.assertLess(count_events(lambda: nth_shape(60, number)), 10 ** 4)
        self.assertLess(count_events(lambda: shape_number("." * 58 + "()")), 10 ** 4)

    def test_arguments_by_name(self):
        self.assertEqual(list(family(first=1, size=3)), [(2, 0, 1), (1, 2, 0)])
        self.assertEqual(nth_shape(first=1, number=1, size=4), ".().")
        self.assertEqual(shape_number(first=1, shape=".()."), 1)
        for call, passed in [(family, (3, 1)), (nth_shape, (3, 0, 1)), (shape_number, ("()", 1))]:
            with self.assertRaises(TypeError):
                call(*passed)

    def test_exceptions_of_families_and_shapes_with_numbers(self):
        for call, more in [(first_of_family, {}), (nth_shape, {"number": 0})]:
            for value in wrong_sizes():
                self.assert_raises("InvalidSize", value, call, size=value, **more)
            for value in wrong_firsts(3):
                self.assert_raises("InvalidFirst", value, call, size=3, first=value, **more)
        self.assert_due(first_of_family, {"size": 3, "first": 3}, ("InvalidSize", {"size": 0}),
                        ("InvalidFirst", {"first": 4}))
        self.assert_due(nth_shape, {"size": 3, "number": 0, "first": 3}, ("InvalidSize", {"size": 0}),
                        ("InvalidFirst", {"first": 4}), ("InvalidNumber", {"number": 2}))
        for number in [-1, 2, 3, 10 ** 29, "0", [0], (0,), *wrong_values()]:
            self.assert_raises("InvalidNumber", number, nth_shape, 3, number)
        for size, first in [(1, None), (1, 1), (2, 1), (7, 3), (60, None), (60, 1)]:
            number = family_count(size, **told_first(first))
            self.assert_raises_equal("InvalidNumber", number, nth_shape, size, number, **told_first(first))

    def test_exceptions_of_numbers_of_shapes(self):
        for value in wrong_firsts(4):
            self.assert_raises("InvalidFirst", value, shape_number, "(())", first=value)
            self.assert_raises("InvalidFirst", value, shape_number, "....", first=value)
        for shape, first, pairs in [("....", None, 0), (".", 1, 0), ("." * 60, 60, 0), ("(())", 1, 2), ("()()", 1, 2),
                                    ("()" * 30, 29, 30), (".()()()", 2, 3)]:
            self.assert_raises_equal("InvalidNumber", pairs, shape_number, shape, **told_first(first))
        self.assertEqual(shape_number("()" * 30, first=30), shape_number("()" * 30))
        self.assert_due(shape_number, {"shape": "...", "first": 3}, ("InvalidShape", {"shape": "(.)"}),
                        ("InvalidFirst", {"first": 4}), ("InvalidNumber", {}, 0))


class Point47(ProgramTest):
    def check_merge(self, one, other):
        tests = merge_tests(one, other)
        order = chains([one, other])
        self.assertIs(type(tests), list)
        self.assertEqual(len(tests), min(one, other))
        for row in tests:
            self.assertIs(type(row), tuple)
            self.assertEqual(sorted(row), list(range(one + other)))
        self.assertEqual(fitting(tests, order), tests)
        words = {word for row in tests for word in plain_words(row)}
        needed = ["0" * (one - high) + "1" * high + "0" * (other - low) + "1" * low
                  for high in range(1, one + 1) for low in range(other)]
        self.assertEqual([word for word in needed if word not in words], [])
        self.assertEqual(merge_needed(one, other), len(needed))

    def test_all_pairs_of_small_sizes(self):
        for one, other in itertools.product(range(1, 9), repeat=2):
            self.check_merge(one, other)
            if one + other <= 9:
                order = chains([one, other])
                self.assertEqual(merge_needed(one, other), len(plain_needed(order, None)))
                self.assertEqual(plain_uncovered(order, merge_tests(one, other), None), [])

    def test_great_sizes(self):
        for one, other in [(30, 30), (1, 59), (59, 1), (2, 58), (40, 20)]:
            self.check_merge(one, other)

    def test_told_lists_are_new(self):
        told = merge_tests(3, 2)
        expected = list(told)
        told.clear()
        self.assertEqual(merge_tests(other=2, one=3), expected)
        self.assertEqual(merge_needed(other=2, one=3), 6)

    def test_exceptions(self):
        for call in [merge_needed, merge_tests]:
            for value in [0, -1, -10 ** 29, "3", [3], (3,), *wrong_values()]:
                self.assert_raises("InvalidSize", value, call, value, 3)
                self.assert_raises("InvalidSize", value, call, 3, value)
                self.assert_raises("InvalidSize", value, call, value, [])
                self.assert_raises("InvalidSize", value, call, 61, value)
            for one, other in [(1, 60), (60, 1), (31, 30), (61, 1), (1, 61), (10 ** 29, 10 ** 29)]:
                self.assert_raises_equal("TooLarge", one + other, call, one, other)
            self.assert_due(call, {"one": 60, "other": 60}, ("InvalidSize", {"one": 0}), ("InvalidSize", {"other": 0}),
                            ("TooLarge", {}, 120))


if __name__ == "__main__":
    unittest.main()
