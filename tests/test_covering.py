import itertools
import unittest

from enoughtests.covering import are_enough, counter, covered, implies, is_counter, missing, parting_network, passes
from enoughtests.near import near_sorter
from enoughtests.networks import Network, sorter
from enoughtests.orders import Order, chains

from helping import ProgramTest, all_firsts, fitting, known_orders, listed_cases, lists_of_tests, made, named
from helping import networks, plain_needed, plain_rows, plain_uncovered, plain_words, stretched, wrong_firsts
from helping import wrong_lists, wrong_networks, wrong_tests, wrong_values


def works_plainly(network, row, first):
    """Whether a network works for a row, told in the plainest way."""
    most = network.size if first is None else first
    return made(network, row)[:most] == sorted(row)[:most]


def passes_plainly(network, tests, first):
    return all(works_plainly(network, test, first) for test in tests)


class Examples(unittest.TestCase):
    def test_examples_of_the_interface(self):
        self.assertEqual(
            [are_enough(3, [(2, 0, 1), (1, 2, 0)]), are_enough(3, [(2, 1, 0)]), missing(3, [(2, 1, 0)]),
             are_enough(3, [(1, 2, 0)], known=chains([2, 1]))],
            [True, False, ["010", "101"], True])
        network, row = counter(3, [(2, 1, 0)])
        self.assertEqual(
            [passes(network, [(2, 1, 0)]), network(row) == (0, 1, 2), is_counter(3, [(2, 1, 0)], (network, row)),
             covered(3, [(5, 9, -2)], first=1)],
            [True, False, True, ["110"]])
        self.assertEqual(
            [implies(3, [(2, 1, 0)], [(2, 0, 1)]), implies(3, [(2, 0, 1), (1, 2, 0)], [(2, 1, 0)])], [False, True])


class Point33(ProgramTest):
    def test_covered_and_missing_words_of_small_sizes(self):
        for order, first, tests in listed_cases():
            expected = plain_uncovered(order, tests, first)
            needed = plain_needed(order, first)
            self.assertEqual(missing(order.size, tests, **named(order, first)), expected)
            self.assertEqual(covered(order.size, tests, **named(order, first)),
                             [word for word in needed if word not in expected])

    def test_all_known_orders_of_small_sizes(self):
        for order in known_orders():
            for row in fitting(plain_rows(order.size), order):
                for first in all_firsts(order.size):
                    words = sorted(word for word in plain_words(row) if word in plain_needed(order, first))
                    self.assertEqual(covered(order.size, [row], known=order, first=first), words)
                    self.assertEqual(covered(order.size, (stretched(row), row), known=order, first=first), words)

    def test_larger_sizes(self):
        down = tuple(range(60, 0, -1))
        words = ["1" * ones + "0" * (60 - ones) for ones in range(1, 60)]
        self.assertEqual(covered(60, [down]), words)
        self.assertEqual(covered(60, [list(down), down], first=7), words[-7:])
        self.assertEqual(covered(60, [tuple(range(60))]), [])
        self.assertEqual(covered(60, []), [])
        merged = (*range(1, 60, 2), *range(0, 60, 2))
        self.assertEqual(len(covered(60, [merged], known=chains([30, 30]))), 59)
        self.assertEqual(covered(60, [merged], known=chains([30, 30])), sorted(plain_words(merged)))
        turned = [tuple((item + by) % 60 for item in range(60)) for by in range(60)]
        expected = {word for row in turned for word in plain_words(row) if list(word) != sorted(word)}
        self.assertEqual(covered(60, turned), sorted(expected))
        self.assertEqual(len(covered(60, turned + turned[:40])), 59 * 59)

    def test_missing_words_of_size_ten(self):
        self.assertEqual(len(missing(10, [])), 1013)
        self.assertEqual(len(missing(10, [tuple(range(9, -1, -1))])), 1004)
        self.assertEqual(missing(10, [], known=chains([10])), [])
        self.assertEqual(missing(10, [], known=chains([5, 5]), first=1), ["1111101111"])
        tests = [tuple((item - by) % 10 for item in range(10)) for by in range(10)]
        self.assertEqual(missing(10, tests, first=3), plain_uncovered(Order(10), tests, 3))

    def test_size_one(self):
        self.assertEqual((covered(1, [(5,)]), missing(1, []), missing(1, [[0]], first=1)), ([], [], []))

    def test_arguments_by_name(self):
        self.assertEqual(covered(first=1, known=Order(3, [(0, 1)]), tests=[(1, 2, 0)], size=3), ["110"])
        self.assertEqual(missing(first=2, known=Order(3, [(0, 1)]), tests=[(0, 2, 1)], size=3), ["110"])
        for call in [covered, missing]:
            with self.assertRaises(TypeError):
                call(3, [], Order(3))

    def test_exceptions(self):
        self.check_lists(covered)
        self.check_lists(missing, greatest=10)

    def test_told_lists_are_new_and_tests_stay(self):
        tests = [[2, 1, 0], (0, 2, 1)]
        for call, words in [(covered, ["010", "100", "110"]), (missing, ["101"])]:
            told = call(3, tests)
            told.clear()
            self.assertEqual(call(3, tests), words)
        self.assertEqual(tests, [[2, 1, 0], (0, 2, 1)])
        self.assertEqual([type(test) for test in tests], [list, tuple])


class Point34(ProgramTest):
    def test_small_networks(self):
        for network in [Network(1), *networks(2, 2), *networks(3, 3), *networks(4, 2)[::5], sorter(4)]:
            for first in all_firsts(network.size):
                for tests in lists_of_tests(Order(network.size)):
                    expected = passes_plainly(network, tests, first)
                    self.assertIs(passes(network, tests, first=first), expected)
                    self.assertIs(passes(first=first, tests=tuple(tests), network=network), expected)

    def test_no_tests(self):
        for network in [Network(1), Network(60), sorter(5)]:
            self.assertIs(passes(network, []), True)
            self.assertIs(passes(network, (), first=1), True)

    def test_size_sixty(self):
        tests = [tuple((item * 7 + by) % 60 for item in range(60)) for by in range(60)]
        self.assertIs(passes(sorter(60), tests), True)
        self.assertIs(passes(Network(60), tests), False)
        self.assertIs(passes(Network(60, [(0, line) for line in range(1, 60)]), tests, first=1), True)
        self.assertIs(passes(Network(60, [(0, line) for line in range(1, 60)]), tests, first=2), False)
        self.assertIs(passes(sorter(60).without(1769), tests), False)

    def test_without_first_all_items_count(self):
        network = Network(3, [(0, 1), (0, 2)])
        self.assertEqual([passes(network, [(1, 2, 0)], first=first) for first in (None, 1, 2, 3)],
                         [False, True, False, False])
        self.assertIs(passes(network, [(1, 2, 0)]), False)

    def test_exceptions(self):
        for value in wrong_networks():
            self.assert_raises("NotNetwork", value, passes, value, [])
        for value in wrong_lists():
            self.assert_raises("InvalidTests", value, passes, Network(3), value)
        for item in wrong_tests(3):
            self.assert_raises("InvalidRow", item, passes, Network(3), [item])
            self.assert_raises("InvalidRow", item, passes, Network(3), ([0, 1, 2], (2, 1, 0), item, None))
        for value in wrong_firsts(3):
            self.assert_raises("InvalidFirst", value, passes, Network(3), [], first=value)
        self.assert_due(passes, {"network": Network(3), "tests": [(0, 1, 2)], "first": 3},
                        ("NotNetwork", {"network": [3]}), ("InvalidTests", {"tests": "012"}),
                        ("InvalidRow", {"tests": [(0, 1, 2), (0, 1, 1), None]}, (0, 1, 1)),
                        ("InvalidFirst", {"first": [1]}))
        with self.assertRaises(TypeError):
            passes(Network(3), [], 1)


class Point35(ProgramTest):
    def check_counter(self, order, first, tests, found):
        """A counter for a list of tests is what the point says."""
        self.assertIs(type(found), tuple)
        network, row = found
        self.assertIs(type(network), Network)
        self.assertEqual(network.size, order.size)
        self.assertLessEqual(len(network), 2000)
        self.assertTrue(passes_plainly(network, tests, first))
        self.assertIs(type(row), tuple)
        self.assertEqual(sorted(row), list(range(order.size)))
        self.assertEqual(fitting([row], order), [row])
        self.assertFalse(works_plainly(network, row, first))
        self.assertIs(is_counter(order.size, tests, found, known=order, first=first), True)

    def test_small_sizes(self):
        for order, first, tests in listed_cases():
            expected = plain_uncovered(order, tests, first) == []
            self.assertIs(are_enough(order.size, tests, **named(order, first)), expected)
            found = counter(order.size, tests, **named(order, first))
            if expected:
                self.assertIsNone(found)
            else:
                self.check_counter(order, first, tests, found)

    def test_no_network_of_few_steps_tells_otherwise(self):
        # All that networks of three lines can do, they do with four steps.
        tried = networks(3, 4)
        for order, first, tests in listed_cases():
            if order.size == 3:
                rows = fitting(plain_rows(3), order)
                wrong = [network for network in tried if passes_plainly(network, tests, first)
                         and not passes_plainly(network, rows, first)]
                self.assertIs(are_enough(3, tests, known=order, first=first), wrong == [])

    def test_larger_sizes(self):
        for size in [7, 10]:
            for order in [Order(size), chains([size - 4, 4]), Order(size, [(size - 1, 0), (3, 2)])]:
                for first in [None, 1, 3, size]:
                    tests = rows_of(order)
                    for some in [[], tests, tests[::2]]:
                        found = counter(size, some, known=order, first=first)
                        if plain_uncovered(order, some, first):
                            self.check_counter(order, first, some, found)
                        else:
                            self.assertIsNone(found)
        self.assertIs(are_enough(10, [], known=chains([10])), True)
        self.assertIsNone(counter(10, [], known=chains([10])))
        least = [tuple(0 if line == least else line + 1 for line in range(10)) for least in range(1, 10)]
        self.assertIs(are_enough(10, least, first=1), True)
        self.assertIs(are_enough(10, least[1:], first=1), False)

    def test_equal_calls_return_equal_results(self):
        for tests in lists_of_tests(Order(4)):
            self.assertEqual(counter(4, list(tests)), counter(4, list(tests)))

    def test_is_counter_for_networks_and_rows_of_small_sizes(self):
        for order in [Order(2), Order(3), Order(3, [(0, 1)]), Order(3, [(2, 0), (2, 1)])]:
            rows = [*plain_rows(order.size), *itertools.product([-4, 10 ** 29], repeat=order.size)]
            for tests, first in itertools.product(lists_of_tests(order)[:4], all_firsts(order.size)):
                for network, row in itertools.product(networks(order.size, 2), rows):
                    expected = (passes_plainly(network, tests, first) and fitting([row], order) == [row]
                                and not works_plainly(network, row, first))
                    self.assertIs(is_counter(order.size, tests, (network, row), **named(order, first)), expected)
                    self.assertIs(is_counter(order.size, tests, (network, list(row)), **named(order, first)), False)

    def test_is_counter_of_size_sixty(self):
        word = "10" * 30
        row = tuple(int(letter) * 5 - 2 for letter in word)
        tests = [tuple(range(60)), list(range(60, 0, -1))]
        self.assertIs(is_counter(60, tests, (near_sorter(word), row)), True)
        self.assertIs(is_counter(60, tests, (sorter(60), row)), False)
        self.assertIs(is_counter(60, tests, (Network(60), row)), False)
        self.assertIs(is_counter(60, tests[:1], (Network(60), row), first=1), True)
        self.assertIs(is_counter(60, tests[:1], (Network(60), row), known=Order(60, [(0, 1)])), False)

    def test_is_counter_for_values_of_all_kinds(self):
        network, row = Network(3, [(0, 1), (0, 2)]), (0, 2, 1)
        self.assertIs(is_counter(3, [(0, 1, 2)], (network, row)), True)
        for value in [[network, row], (network, list(row)), (row, network), (network,), (network, row, row), (),
                      (network, "010"), (network, (0, 2)), (network, (0, 2, 1, 1)), (network, (0, 2, True)),
                      (network, None), (None, row), (3, row), (str(network), row), (Network(4), row),
                      (Network(2), row), (Network(4), (0, 1, 3, 2)), (Order(3), row), (network, (0, "2", 1)),
                      (network, network), network, row, "010", 0, *wrong_values()]:
            with self.subTest(value=value):
                self.assertIs(is_counter(3, [(0, 1, 2)], value), False)

    def test_arguments_by_name(self):
        order, tests = Order(3, [(0, 1)]), [(1, 2, 0)]
        self.assertIs(are_enough(first=1, known=order, tests=tests, size=3), True)
        self.assertIs(are_enough(first=1, known=Order(3), tests=tests, size=3), False)
        self.assertIs(are_enough(first=1, known=None, tests=[*tests, (1, 0, 2)], size=3), True)
        self.assertIs(are_enough(first=2, known=None, tests=[*tests, (1, 0, 2)], size=3), False)
        found = counter(first=2, known=order, tests=[(0, 2, 1)], size=3)
        self.check_counter(order, 2, [(0, 2, 1)], found)
        self.assertIs(is_counter(first=2, known=order, value=found, tests=[(0, 2, 1)], size=3), True)
        for call, passed in [(are_enough, ()), (counter, ()), (is_counter, (None,))]:
            with self.assertRaises(TypeError):
                call(3, [], *passed, Order(3))

    def test_exceptions(self):
        self.check_lists(are_enough, greatest=10)
        self.check_lists(counter, greatest=10)
        for value in [None, [], (Network(60), (1,) * 60)]:
            self.check_lists(is_counter, value=value)


def rows_of(order):
    """Some tests of a greater size that fit, with the integers from 0 on."""
    found = []
    for step in range(1, 7):
        heights = [(line * step * 3 + step) % 11 for line in range(order.size)]
        for a, b in [*order.pairs] * order.size:
            heights[a], heights[b] = min(heights[a], heights[b]), max(heights[a], heights[b])
        lines = sorted(range(order.size), key=lambda line: (heights[line], sum(b == line for a, b in order.pairs)))
        found.append(tuple(lines.index(line) for line in range(order.size)))
    return fitting(found, order)


class Point36(ProgramTest):
    def check_two(self, size, one, other, first, told):
        """Told by the needed words whether one list implies the other one, and checked by what is told."""
        words = [word for word in plain_needed(Order(size), first)]
        left = [word for test in one for word in plain_words(test)]
        expected = all(word in left for test in other for word in plain_words(test) if word in words)
        self.assertIs(implies(size, one, other, **told), expected)
        found = parting_network(size, one, other, **told)
        if expected:
            self.assertIsNone(found)
            return
        self.assertIs(type(found), tuple)
        network, index = found
        self.assertIs(type(network), Network)
        self.assertIs(type(index), int)
        self.assertEqual(network.size, size)
        self.assertIn(index, range(len(other)))
        self.assertTrue(passes_plainly(network, one, first))
        self.assertFalse(works_plainly(network, other[index], first))

    def test_pairs_of_lists_of_small_sizes(self):
        for order in known_orders()[::2]:
            for one, other in itertools.product(lists_of_tests(order), repeat=2):
                for first in all_firsts(order.size):
                    self.check_two(order.size, one, other, first, named(order, first))

    def test_pairs_of_tests_without_a_known_order(self):
        for one, other in itertools.product(plain_rows(4), repeat=2):
            for first in [None, 1, 2]:
                self.check_two(4, [one], [other], first, named(Order(4), first))

    def test_no_network_of_few_steps_tells_otherwise(self):
        tried = networks(3, 4)
        for one, other in itertools.product(lists_of_tests(Order(3)), repeat=2):
            for first in all_firsts(3):
                wrong = [network for network in tried if passes_plainly(network, one, first)
                         and not passes_plainly(network, other, first)]
                self.assertIs(implies(3, one, other, first=first), wrong == [])

    def test_size_sixty(self):
        turned = [tuple((item * 7 + by) % 60 for item in range(60)) for by in range(0, 60, 9)]
        self.check_two_of_sixty(turned[1:], turned, 0)
        self.check_two_of_sixty(turned[:3], turned, 3)
        self.assertIs(implies(60, turned, turned[::-1] * 2), True)
        self.assertIs(implies(60, [], [tuple(range(60))]), True)
        self.assertIs(implies(60, turned[1:], turned[:1], first=1), True)
        self.assertIs(implies(60, turned[:1], turned[1:2], first=1), False)

    def check_two_of_sixty(self, one, other, index):
        self.assertIs(implies(60, one, other), False)
        network, told = parting_network(60, one, other)
        self.assertEqual(told, index)
        self.assertLessEqual(len(network), 2000)
        self.assertTrue(passes_plainly(network, one, None))
        self.assertFalse(works_plainly(network, other[index], None))

    def test_what_is_known_does_not_matter(self):
        for first in all_firsts(3):
            for known in [None, Order(3), Order(3, [(1, 2)]), chains([1, 2])]:
                told = [implies(3, [(2, 0, 1)], [other], known=known, first=first) for other in [(0, 1, 2), (1, 0, 2)]]
                self.assertEqual(told, [True, True])
                self.assertIs(implies(3, [(0, 1, 2)], [(2, 0, 1)], known=known, first=first), False)

    def test_arguments_by_name(self):
        given = {"first": 3, "known": Order(3, [(0, 1)]), "other": [(1, 2, 0)], "one": [(0, 2, 1)], "size": 3}
        self.assertIs(implies(**given), False)
        network, index = parting_network(**given)
        self.assertEqual((index, passes(network, [(0, 2, 1)]), passes(network, [(1, 2, 0)])), (0, True, False))
        for call in [implies, parting_network]:
            with self.assertRaises(TypeError):
                call(3, [], [], Order(3))

    def test_exceptions(self):
        self.check_lists(implies, lists=("one", "other"))
        self.check_lists(parting_network, lists=("one", "other"))


if __name__ == "__main__":
    unittest.main()
