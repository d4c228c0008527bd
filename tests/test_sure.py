import itertools
import math
import types
import unittest

from enoughtests.networks import Network
from enoughtests.orders import Order, chains
from enoughtests.sure import doubt, doubtful_row, is_sure, sure_count, sure_rows

from helping import ProgramTest, all_firsts, count_events, fitting, known_orders, listed_cases, lists_of_tests, made
from helping import named, networks, plain_rows, plain_uncovered, plain_words, stretched, wrong_tests


def first_sure_row(**given):
    """Asks for the first one of the sure rows."""
    return next(sure_rows(**given))


def works_plainly(network, row, first):
    most = network.size if first is None else first
    return made(network, row)[:most] == sorted(row)[:most]


def sure_plainly(order, tests, first):
    """The rows that fit, have the integers from 0 on and are sure, in ascending order, found in the plainest way."""
    missing = plain_uncovered(order, tests, first)
    return [row for row in fitting(plain_rows(order.size), order)
            if not any(word in missing for word in plain_words(row))]


class Examples(unittest.TestCase):
    def test_examples_of_the_interface(self):
        tests = [(2, 1, 0)]
        self.assertEqual(
            [is_sure(3, tests, (1, 0, 2)), is_sure(3, tests, [30, 20, 10]), sure_count(3, tests),
             list(sure_rows(3, tests)), doubtful_row(3, tests)],
            [False, True, 2, [(0, 1, 2), (2, 1, 0)], (0, 2, 1)])
        self.assertIs(doubt(3, tests, (0, 2, 1))((0, 2, 1)) == (0, 1, 2), False)


class Point37(ProgramTest):
    def check(self, size, tests, row, first, expected, told):
        self.assertIs(is_sure(size, tests, row, **told), expected)
        network = doubt(size, tests, row, **told)
        if expected:
            self.assertIsNone(network)
            return
        self.assertIs(type(network), Network)
        self.assertEqual(network.size, size)
        self.assertLessEqual(len(network), 2000)
        self.assertTrue(all(works_plainly(network, test, first) for test in tests))
        self.assertFalse(works_plainly(network, row, first))

    def test_all_rows_of_small_sizes(self):
        for order, first, tests in listed_cases():
            sure = sure_plainly(order, tests, first)
            for row in fitting(plain_rows(order.size), order):
                self.check(order.size, tests, row, first, row in sure, named(order, first))

    def test_rows_with_great_items_and_lists(self):
        for order in known_orders()[::3]:
            for tests in lists_of_tests(order)[:3]:
                sure = sure_plainly(order, tests, None)
                for row in fitting(plain_rows(order.size), order):
                    self.check(order.size, tests, stretched(row), None, row in sure, {"known": order})
                    self.check(order.size, tests, tuple(stretched(row)), None, row in sure, {"known": order})

    def test_no_network_of_few_steps_tells_otherwise(self):
        tried = networks(3, 4)
        for tests, first in itertools.product(lists_of_tests(Order(3)), all_firsts(3)):
            passing = [network for network in tried if all(works_plainly(network, test, first) for test in tests)]
            for row in plain_rows(3):
                expected = all(works_plainly(network, row, first) for network in passing)
                self.assertIs(is_sure(3, tests, row, first=first), expected)

    def test_size_sixty(self):
        turned = [tuple((item + by) % 60 for item in range(60)) for by in range(60)]
        self.check(60, turned, tuple(range(60)), None, True, {})
        self.check(60, [], tuple(range(60)), None, True, {})
        self.check(60, turned, turned[17], None, True, {})
        self.check(60, turned[:17] + turned[18:], turned[17], None, False, {})
        self.check(60, turned, list(range(60, 0, -1)), None, True, {})
        self.check(60, turned, tuple(item * 7 % 60 for item in range(60)), None, False, {})
        self.check(60, turned, [0, 2, 1, *range(3, 60)], 1, True, {"first": 1})
        self.check(60, turned, [0, 2, 1, *range(3, 60)], 2, False, {"first": 2})

    def test_arguments_by_name(self):
        given = {"known": Order(3, [(0, 1)]), "row": [0, 9, 5], "tests": [(1, 2, 0)], "size": 3}
        self.assertIs(is_sure(first=2, **given), True)
        self.assertIs(is_sure(first=1, known=None, row=[0, 9, 5], tests=[], size=3), True)
        self.assertIs(is_sure(first=2, known=None, row=[0, 9, 5], tests=[], size=3), False)
        self.assertIsNone(doubt(first=2, **given))
        self.assertEqual(doubt(first=2, **{**given, "tests": []})("010"), "010")
        for call in [is_sure, doubt]:
            with self.assertRaises(TypeError):
                call(3, [], (0, 1, 2), Order(3))

    def test_arguments_stay(self):
        tests, row = [[2, 1, 0], (0, 2, 1)], [1, 0, 2]
        is_sure(3, tests, row)
        doubt(3, tests, row)
        self.assertEqual((tests, row), ([[2, 1, 0], (0, 2, 1)], [1, 0, 2]))

    def test_exceptions_for_lists_of_tests(self):
        for call in [is_sure, doubt]:
            # The row must be of the size that the checks of the order of the exceptions take.
            def with_row(**given):
                size = given["size"] if given["size"] in (3, 60) else 3
                return call(row=tuple(range(size)), **given)
            self.check_lists(with_row)

    def test_exceptions_for_the_row(self):
        order = Order(3, [(0, 2)])
        for call in [is_sure, doubt]:
            for row in wrong_tests(3):
                self.assert_raises("InvalidRow", row, call, 3, [], row)
                self.assert_raises("InvalidRow", row, call, 3, ([0, 1, 2],), row, known=None, first=1)
            for row in [(2, 1, 0), [9, 8, 7], (10 ** 29, 5, -5)]:
                self.assert_raises("NotFitting", row, call, 3, [[0, 1, 2]], row, known=order)
            up, down = tuple(range(60)), list(range(60, 0, -1))
            known = Order(60, [(0, 59)])
            self.assert_due(call, {"size": 60, "tests": [up], "row": up, "known": known, "first": 60},
                            ("InvalidSize", {"size": 61}), ("InvalidTests", {"tests": {}}),
                            ("InvalidRow", {"tests": [up, 0]}, 0), ("InvalidRow", {"row": [1, 2]}),
                            ("NotOrder", {"known": [3]}), ("UnlikeSizes", {"known": Order(3)}, (60, 3)),
                            ("InvalidFirst", {"first": 0}), ("NotFitting", {"tests": [up, down], "known": known}, down),
                            ("NotFitting", {"row": [*up[1:], 0], "known": known}, [*up[1:], 0]))


class Point38(ProgramTest):
    def check(self, order, tests, first, told):
        sure = sure_plainly(order, tests, first)
        doubtful = [row for row in fitting(plain_rows(order.size), order) if row not in sure]
        self.assertEqual(sure_count(order.size, tests, **told), len(sure))
        self.assertEqual(list(sure_rows(order.size, tests, **told)), sure)
        self.assertEqual(doubtful_row(order.size, tests, **told), doubtful[0] if doubtful else None)

    def test_small_sizes(self):
        for order, first, tests in listed_cases():
            self.check(order, tests, first, named(order, first))

    def test_size_five(self):
        for order in [Order(5), Order(5, [(4, 0), (4, 3)]), chains([2, 3])]:
            for tests in lists_of_tests(order)[:3]:
                for first in [None, 1, 2, 4]:
                    self.check(order, tests, first, named(order, first))

    def test_sure_rows_is_a_generator(self):
        self.assertIsInstance(sure_rows(3, []), types.GeneratorType)
        rows = sure_rows(3, [(2, 1, 0)])
        self.assertEqual((next(rows), next(rows), next(rows, None)), ((0, 1, 2), (2, 1, 0), None))

    def test_sizes_nine_and_ten_where_all_rows_are_sure(self):
        for size in [9, 10]:
            least = [tuple(0 if line == zero else line + 1 for line in range(size)) for zero in range(1, size)]
            self.assertEqual(sure_count(size, least, first=1), math.factorial(size))
            self.assertIsNone(doubtful_row(size, least, first=1))
            rows = list(itertools.islice(sure_rows(size, least, first=1), 1000))
            self.assertEqual(rows, list(itertools.islice(itertools.permutations(range(size)), 1000)))
            self.assertEqual(sure_count(size, [], known=chains([size])), 1)
            self.assertEqual(list(sure_rows(size, [], known=chains([size]))), [tuple(range(size))])
            self.assertIsNone(doubtful_row(size, [], known=chains([size])))

    def test_sizes_nine_and_ten_where_few_rows_are_sure(self):
        for size in [9, 10]:
            up, down = tuple(range(size)), tuple(range(size - 1, -1, -1))
            self.assertEqual(list(sure_rows(size, [])), [up])
            self.assertEqual(list(sure_rows(size, [down])), [up, down])
            self.assertEqual(sure_count(size, [stretched(down), up]), 2)
            self.assertEqual(doubtful_row(size, []), (*up[:-2], size - 1, size - 2))
            tests = [(1, 0, *up[2:])]
            self.assertEqual(list(sure_rows(size, tests)), [up, (1, 0, *up[2:])])
            self.assertEqual(sure_count(size, [], first=1), math.factorial(size - 1))
            self.assertEqual(next(sure_rows(size, [], first=1)), up)
            self.assertEqual(doubtful_row(size, [], first=1), (1, 0, *up[2:]))
            merge = chains([size - 4, 4])
            told = list(sure_rows(size, [(*up[:-5], size - 2, *up[-5:-2], size - 1)], known=merge))
            self.assertEqual(told, [up, (*up[:-5], size - 4, *up[-5:-4], *up[-3:]),
                                    (*up[:-5], size - 3, *up[-5:-3], *up[-2:]),
                                    (*up[:-5], size - 2, *up[-5:-2], size - 1)])

    def test_the_last_rows_only(self):
        # Line 0 is known to have the greatest item, so no row that fits is sure without tests.
        order = Order(9, [(line, 0) for line in range(1, 9)])
        self.assertEqual(next(sure_rows(9, [(8, *range(8))], known=order)), (8, *range(8)))
        self.assertEqual(sure_count(9, [(8, *range(8))], known=order), 1)
        self.assertEqual(doubtful_row(9, [(8, *range(8))], known=order), (8, *range(6), 7, 6))
        self.assertEqual(list(sure_rows(9, [], known=order)), [])
        self.assertEqual(doubtful_row(9, [], known=order), (8, *range(8)))

    def test_no_time_is_spent_on_rows_that_are_not_sure(self):
        down = tuple(range(9, -1, -1))
        self.assertLess(count_events(lambda: list(sure_rows(10, [down]))), 2 * 10 ** 6)
        self.assertLess(count_events(lambda: doubtful_row(10, [down], first=1)), 2 * 10 ** 6)

    def test_arguments_by_name(self):
        given = {"known": Order(3, [(0, 1)]), "tests": [(0, 2, 1)], "size": 3}
        self.assertEqual(sure_count(first=3, **given), 2)
        self.assertEqual(list(sure_rows(first=1, **given)), [(0, 1, 2), (0, 2, 1)])
        self.assertEqual(doubtful_row(first=3, **given), (1, 2, 0))
        for call in [sure_count, sure_rows, doubtful_row]:
            with self.assertRaises(TypeError):
                call(3, [], Order(3))

    def test_exceptions(self):
        for call in [sure_count, first_sure_row, doubtful_row]:
            self.check_lists(call, greatest=10)

    def test_told_rows_are_tuples(self):
        for row in [*sure_rows(4, [[3, 2, 1, 0]]), doubtful_row(4, [[3, 2, 1, 0]])]:
            self.assertIs(type(row), tuple)


if __name__ == "__main__":
    unittest.main()
