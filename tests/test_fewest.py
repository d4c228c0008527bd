import itertools
import math
import unittest

from enoughtests.covering import are_enough
from enoughtests.fewest import bar, fewest, fewest_count, further, further_bar, is_bar
from enoughtests.orders import Order, chains

from helping import ProgramTest, all_firsts, all_words, fitting, known_orders, listed_cases, lists_of_tests, named
from helping import orders, plain_needed, plain_uncovered, stretched, wrong_firsts, wrong_orders, wrong_sizes
from helping import wrong_values


def is_below(one, other):
    return all(a <= b for a, b in zip(one, other))


def are_apart(words):
    """Whether no word is below another one, so that they are different as well."""
    return not any(is_below(one, other) for one, other in itertools.permutations(words, 2))


def least_count(size, first):
    """The number of point 43."""
    return math.comb(size, min(size if first is None else first, size // 2)) - 1


def longest_bar(words):
    """The greatest number of words none of which is below another one, found in the plainest way."""
    best = 0
    for many in range(len(words) + 1):
        if any(are_apart(some) for some in itertools.combinations(words, many)):
            best = many
    return best


class Examples(unittest.TestCase):
    def test_examples_of_the_interface(self):
        self.assertEqual(
            [len(fewest(4)), are_enough(4, fewest(4)), is_bar(4, [], bar(4)), fewest_count(5),
             fewest_count(6, known=chains([2, 4]))],
            [5, True, True, 9, 2])
        self.assertEqual(
            [len(further(3, [(2, 1, 0)])), is_bar(3, [(2, 1, 0)], ["010", "101"]), is_bar(3, [], ["010", "110"]),
             fewest_count(5, first=1)],
            [2, True, False, 4])


class FewestTest(ProgramTest):
    def check_tests(self, order, first, tests, more):
        """With further tests, a list of tests is enough; they fit and have the integers from 0 on."""
        self.assertIs(type(more), list)
        for row in more:
            self.assertIs(type(row), tuple)
            self.assertEqual(sorted(row), list(range(order.size)))
        self.assertEqual(fitting(more, order), more)
        self.assertEqual(plain_uncovered(order, [*tests, *more], first), [])

    def check_bar(self, order, first, tests, words):
        """Needed words that tests do not cover and none of which is below another one."""
        self.assertIs(type(words), list)
        missing = plain_uncovered(order, tests, first)
        self.assertEqual([word for word in words if word not in missing], [])
        self.assertTrue(are_apart(words))
        self.assertIs(is_bar(order.size, tests, words, known=order, first=first), True)

    def check_further(self, order, first, tests, told):
        more = further(order.size, tests, **told)
        words = further_bar(order.size, tests, **told)
        self.check_tests(order, first, tests, more)
        self.check_bar(order, first, tests, words)
        self.assertEqual(len(more), len(words))
        self.assertEqual(fewest_count(order.size, tests, **told), len(more))

    def check_fewest(self, order, first, told):
        tests = fewest(order.size, **told)
        words = bar(order.size, **told)
        self.check_tests(order, first, [], tests)
        self.check_bar(order, first, [], words)
        self.assertEqual(len(tests), len(words))
        self.assertEqual(fewest_count(order.size, **told), len(tests))
        if len(order) == 0:
            self.assertEqual(len(tests), least_count(order.size, first))


class Point41(FewestTest):
    def test_fewest_and_bar_for_all_orders_of_small_sizes(self):
        for order in [Order(1), *orders(2, 2), *orders(3, 6), *orders(4, 12)]:
            for first in all_firsts(order.size):
                self.check_fewest(order, first, named(order, first))

    def test_further_and_further_bar_for_small_sizes(self):
        for order, first, tests in listed_cases():
            self.check_further(order, first, tests, named(order, first))

    def test_the_number_is_that_of_the_plainest_search(self):
        for order in [*orders(3, 6), *known_orders()[-3:], chains([2, 3])]:
            for first in [None, 1, 2]:
                words = plain_needed(order, first)
                if len(words) <= 11:
                    self.assertEqual(fewest_count(order.size, known=order, first=first), longest_bar(words))

    def test_sizes_without_known_orders(self):
        for size in range(1, 10):
            for first in all_firsts(size):
                told = {} if first is None else {"first": first}
                self.assertEqual(fewest_count(size, **told), least_count(size, first))
                self.assertEqual(len(fewest(size, **told)), least_count(size, first))
                if size < 8:
                    self.check_fewest(Order(size), first, told)

    def test_sizes_from_six_to_nine_with_known_orders(self):
        for size in [6, 7, 8, 9]:
            some = [chains([size]), chains([size - 2, 2]), chains([2, 3, size - 5]), ~chains([size - 1, 1]),
                    Order(size, [(size - 1, 0)]), Order(size, [(0, 3), (2, 3), (4, 1), (size - 1, 2)]),
                    Order(size, [(line, line + 2) for line in range(size - 2)])]
            for order in some:
                for first in [None, 1, 3, size - 1]:
                    self.check_fewest(order, first, named(order, first))

    def test_size_nine_without_known_orders(self):
        for first in [None, 2, 4]:
            self.check_fewest(Order(9), first, named(Order(9), first))

    def test_further_tests_of_sizes_from_six_to_nine(self):
        for size in [6, 7, 9]:
            turned = [tuple((item * 2 + by) % (size | 1) for item in range(size)) for by in range(size | 1)]
            for order in [Order(size), Order(size, [(1, 4), (0, 5)])]:
                tests = [stretched(row) for row in fitting(turned, order)]
                for first in [None, 2]:
                    self.check_further(order, first, tests, named(order, first))
                    self.check_further(order, first, tests[1::2], named(order, first))

    def test_merges(self):
        for one, other in itertools.product(range(1, 9), repeat=2):
            if one + other <= 9:
                self.assertEqual(fewest_count(one + other, known=chains([one, other])), min(one, other))

    def test_nothing_is_needed(self):
        for size in [1, 2, 9]:
            self.assertEqual(fewest(size, known=chains([size])), [])
            self.assertEqual(bar(size, known=chains([size])), [])
            self.assertEqual(further(size, [tuple(range(size))], known=chains([size])), [])
        self.assertEqual((fewest(1), bar(1), fewest(2), bar(2)), ([], [], [(1, 0)], ["10"]))
        self.assertEqual((further(3, fewest(3)), further_bar(3, fewest(3))), ([], []))

    def test_told_lists_are_new_and_tests_stay(self):
        tests = [[2, 1, 0]]
        for call in [lambda: fewest(4), lambda: bar(4), lambda: further(3, tests), lambda: further_bar(3, tests)]:
            told = call()
            expected = list(told)
            told.clear()
            self.assertEqual(call(), expected)
            self.assertGreater(len(expected), 0)
        self.assertEqual(tests, [[2, 1, 0]])

    def test_arguments_by_name(self):
        known = Order(3, [(0, 1)])
        self.assertEqual(fewest(first=1, known=known, size=3), [(1, 2, 0)])
        self.assertEqual(bar(first=1, known=known, size=3), ["110"])
        self.assertEqual(further(first=3, known=known, tests=[(0, 2, 1)], size=3), [(1, 2, 0)])
        self.assertEqual(further_bar(first=3, known=known, tests=[(0, 2, 1)], size=3), ["110"])
        for call, passed in [(fewest, ()), (bar, ()), (further, ([],)), (further_bar, ([],))]:
            with self.assertRaises(TypeError):
                call(3, *passed, known)

    def test_exceptions_of_fewest_and_bar(self):
        for call in [fewest, bar]:
            for value in wrong_sizes():
                self.assert_raises("InvalidSize", value, call, value)
            for value in wrong_orders():
                self.assert_raises("NotOrder", value, call, 3, known=value)
            for value in wrong_firsts(3):
                self.assert_raises("InvalidFirst", value, call, 3, first=value)
            self.assert_raises_equal("UnlikeSizes", (3, 4), call, 3, known=Order(4))
            for size in [10, 11, 60]:
                self.assert_raises_equal("TooLarge", size, call, size)
                self.assert_raises_equal("TooLarge", size, call, size, known=chains([size]), first=1)
            self.assert_due(call, {"size": 10, "known": Order(10), "first": 10},
                            ("InvalidSize", {"size": [3]}), ("NotOrder", {"known": [3]}),
                            ("UnlikeSizes", {"known": Order(3)}, (10, 3)), ("InvalidFirst", {"first": [1]}),
                            ("TooLarge", {}, 10))

    def test_exceptions_of_further_and_further_bar(self):
        for call in [further, further_bar]:
            self.check_lists(call, greatest=9)


class Point42(FewestTest):
    def test_is_bar_for_all_lists_of_few_words(self):
        for order in [Order(1), Order(2), Order(3), Order(3, [(0, 1)]), Order(3, [(2, 0)])]:
            words = all_words(order.size)
            values = [list(some) for many in range(4) for some in itertools.product(words, repeat=many)]
            for tests, first in itertools.product([[], *lists_of_tests(order)[1:3]], all_firsts(order.size)):
                missing = plain_uncovered(order, tests, first)
                for value in values:
                    expected = all(word in missing for word in value) and are_apart(value)
                    self.assertIs(is_bar(order.size, tests, value, **named(order, first)), expected)
                    self.assertIs(is_bar(order.size, tests, tuple(value), **named(order, first)), expected)

    def test_is_bar_for_near_misses(self):
        right = ["0110", "1001", "1010"]
        order, tests = Order(4, [(2, 1)]), [(3, 1, 0, 2)]
        self.assertIs(is_bar(4, [], right), True)
        self.assertIs(is_bar(4, [], right[:1], known=order), True)
        for value, told in [
                (right + right[:1], {}), ([*right, "0011"], {}), ([*right, "1011"], {}), ([*right, "1000"], {}),
                ([*right, "110"], {}), ([*right, "11000"], {}), ([*right, 1100], {}), ([*right, ["1100"]], {}),
                ([*right, None], {}), (right, {"first": 1}), (right, {"known": order}), (right, {"tests": tests}),
                (["0000"], {}), (["1111"], {})]:
            with self.subTest(value=value, told=told):
                self.assertIs(is_bar(**{"size": 4, "tests": [], "value": value, **told}), False)
        self.assertIs(is_bar(4, [], ["1100", *right]), True)
        self.assertIs(is_bar(4, tests, ["0110"]), True)

    def test_is_bar_for_values_of_all_kinds(self):
        for value in wrong_values():
            expected = value in ([], ()) if isinstance(value, (list, tuple)) else False
            with self.subTest(value=value):
                self.assertIs(is_bar(3, [], value), expected)
        for value in ["10", "101", {"101": 1}, {"0": "101"}, 101]:
            self.assertIs(is_bar(3, [], value), False)

    def test_is_bar_of_size_sixty(self):
        words = ["0" * line + "1" + "0" * (59 - line) for line in range(59)]
        self.assertIs(is_bar(60, [], words), True)
        self.assertIs(is_bar(60, [], words, first=59), True)
        self.assertIs(is_bar(60, [], words, first=58), False)
        self.assertIs(is_bar(60, [], words, known=Order(60, [(58, 59)])), False)
        self.assertIs(is_bar(60, [], words[:58], known=Order(60, [(58, 59)])), True)
        self.assertIs(is_bar(60, [], words, known=Order(60, [(59, 58)])), True)
        self.assertIs(is_bar(60, [tuple(range(60, 0, -1))], words), False)
        self.assertIs(is_bar(60, [tuple(range(60, 0, -1))], words[1:]), True)
        self.assertIs(is_bar(60, [], [*words, "11" + "0" * 58]), False)
        lines = list(itertools.combinations(range(0, 60), 2))[:1500]
        pairs = ["".join("1" if line in pair else "0" for line in range(60)) for pair in lines]
        self.assertIs(is_bar(60, [], pairs), True)
        self.assertIs(is_bar(60, [], [*pairs, pairs[0]]), False)

    def test_is_bar_raises(self):
        for value in [None, [], ["10"], ["0" * 60]]:
            self.check_lists(is_bar, value=value)

    def test_fewest_count(self):
        self.assertEqual(fewest_count(9), 125)
        self.assertEqual(fewest_count(first=1, known=Order(3, [(0, 1)]), tests=[], size=3), 1)
        self.assertEqual(fewest_count(3, [(1, 2, 0)], known=Order(3, [(0, 1)])), 0)
        self.assertEqual(fewest_count(3, ()), 2)
        self.assert_raises_equal("TooLarge", 10, fewest_count, 10)
        self.assert_raises("InvalidSize", 0, fewest_count, 0)
        self.check_lists(fewest_count, greatest=9)


if __name__ == "__main__":
    unittest.main()
