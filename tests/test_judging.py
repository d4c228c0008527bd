import itertools
import unittest

from enoughtests.judging import failing_row, failing_word, failing_words, is_failing, sorts, works
from enoughtests.networks import Network, sorter
from enoughtests.orders import Order, chains

from helping import ProgramTest, all_firsts, all_rows, all_words, cases, fitting, made, mixed_network, networks
from helping import orders, plain_rows, wrong_firsts, wrong_networks, wrong_orders, wrong_values

SEARCHING = [sorts, failing_words, failing_word, failing_row]


def brings_out(network, value, first):
    """Whether a network works for a row or a word, told in the plainest way."""
    most = network.size if first is None else first
    return made(network, value)[:most] == sorted(value)[:most]


class Examples(unittest.TestCase):
    def test_examples_of_the_interface(self):
        network = Network(3, [(0, 2), (0, 1)])
        self.assertEqual(
            [failing_words(network), sorts(network, known=Order(3, [(1, 2)])), sorts(network, first=1),
             works(network, (0, 2, 1))],
            [["010"], True, True, False])
        row = failing_row(network)
        self.assertEqual(
            [is_failing(network, row), is_failing(network, (0, 2, 1), first=1), is_failing(network, None)],
            [True, False, False])


class Point25(ProgramTest):
    def test_works_for_all_rows_and_words_of_small_sizes(self):
        for network in [Network(1), *networks(2, 2), *networks(3, 3), mixed_network(4)]:
            for first in all_firsts(network.size):
                for value in [*all_rows(network.size), *all_words(network.size)]:
                    expected = brings_out(network, value, first)
                    self.assertIs(works(network, value, first=first), expected)
                    if not isinstance(value, str):
                        self.assertIs(works(network, list(value), first=first), expected)

    def test_works_of_great_sizes(self):
        network = sorter(60)
        great = [10 ** 29 - line * line for line in range(60)]
        self.assertEqual((works(network, great), works(network, "10" * 30)), (True, True))
        self.assertEqual((works(Network(60), great), works(Network(60), "10" * 30)), (False, False))
        least = Network(60, [(0, line) for line in range(1, 60)])
        self.assertEqual([works(least, great, first=first) for first in (1, 2, 60)], [True, False, False])

    def test_without_first_all_items_count(self):
        network = Network(3, [(0, 1), (0, 2)])
        self.assertEqual([works(network, (1, 0, 2)), works(network, (1, 2, 0)), works(network, (2, 2, 0))],
                         [True, False, True])
        self.assertEqual([works(network, (1, 2, 0), first=first) for first in (None, 1, 2, 3)],
                         [False, True, False, False])
        self.assertEqual(works(first=1, value=[1, 2, 0], network=network), True)

    def test_ties_count_as_their_values_do(self):
        self.assertEqual([works(Network(3), (0, 0, 1), first=1), works(Network(3), (1, 0, 0), first=1),
                          works(Network(3), (0, 1, 0), first=1), works(Network(3), (5, 5, 5))],
                         [True, False, True, True])

    def test_works_raises(self):
        for value in wrong_networks():
            with self.subTest(value=value):
                self.assert_raises("NotNetwork", value, works, value, "010")
        for value in ["01", "0101", (0, 1), [0, 1, 2, 3], (0, 1, True), 0, 10, ("0", "1", "0"), *wrong_values()]:
            with self.subTest(value=value):
                self.assert_raises("InvalidRow", value, works, Network(3), value)
        for value in wrong_firsts(3):
            with self.subTest(value=value):
                self.assert_raises("InvalidFirst", value, works, Network(3), "010", first=value)
        self.assert_due(works, {"network": Network(3), "value": "010", "first": 3},
                        ("NotNetwork", {"network": [3]}), ("InvalidRow", {"value": [1, 2]}),
                        ("InvalidFirst", {"first": [1]}))

    def test_rows_are_not_modified(self):
        row = [2, 1, 0]
        works(sorter(3), row)
        self.assertEqual(row, [2, 1, 0])


class Point26(ProgramTest):
    def check(self, network, order, first, named):
        """The four functions tell of a network what its words and its rows, those with ties included, tell."""
        words = [word for word in fitting(all_words(network.size), order) if not brings_out(network, word, first)]
        rows = [row for row in fitting(all_rows(network.size), order) if not brings_out(network, row, first)]
        self.assertEqual(failing_words(network, **named), words)
        self.assertEqual(failing_word(network, **named), words[0] if words else None)
        self.assertIs(sorts(network, **named), rows == [])
        self.check_row(network, order, first, failing_row(network, **named), rows != [])

    def check_row(self, network, order, first, row, is_there):
        """A row is one that a failing row may be, or None where there is none."""
        if not is_there:
            self.assertIsNone(row)
            return
        self.assertIs(type(row), tuple)
        self.assertEqual(sorted(row), list(range(network.size)))
        self.assertEqual(fitting([row], order), [row])
        self.assertFalse(brings_out(network, row, first))

    def test_small_networks_with_all_known_orders(self):
        for network, order in cases():
            for first in all_firsts(network.size):
                self.check(network, order, first, {"known": order, "first": first})

    def test_small_networks_without_known_orders(self):
        for network in [Network(1), *networks(2, 2), *networks(3, 4), *networks(4, 2)]:
            self.check(network, Order(network.size), None, {})
            for first in range(1, network.size + 1):
                self.check(network, Order(network.size), first, {"first": first})

    def test_failing_words_may_have_more_zeros_than_first(self):
        self.assertEqual(failing_words(Network(3), first=1), ["100", "101", "110"])

    def test_the_known_order_tells_which_rows_count(self):
        merge = Network(4, [(0, 2), (1, 3), (1, 2)])
        self.assertEqual([sorts(merge), sorts(merge, known=chains([2, 2])), sorts(merge, known=Order(4, [(0, 1)]))],
                         [False, True, False])
        self.assertEqual(failing_words(merge, known=Order(4, [(0, 1)])), ["0010", "1110"])
        self.assertEqual(sorts(known=chains([2, 2]), first=1, network=Network(4, [(0, 2)])), True)

    def test_size_ten(self):
        network = sorter(10)
        for known in [None, Order(10), chains([10]), chains([4, 6])]:
            for first in [None, 1, 5, 10]:
                named = {"known": known, "first": first}
                self.assertEqual([call(network, **named) for call in SEARCHING], [True, [], None, None])
        for index in range(len(network)):
            less = network.without(index)
            word = failing_word(less)
            words = failing_words(less)
            self.assertEqual((sorts(less), word), (words == [], words[0] if words else None))
            self.check_row(less, Order(10), None, failing_row(less), words != [])
        self.assertEqual(len(failing_words(Network(10))), 1024 - 11)
        self.assertEqual(failing_words(Network(10), known=chains([10])), [])
        self.assertEqual(len(failing_words(Network(10), known=chains([4, 6]))), 24)
        self.assertEqual(failing_word(Network(10)), "0000000010")

    def test_size_ten_with_first(self):
        least = Network(10, [(0, line) for line in range(1, 10)] + [(1, line) for line in range(2, 10)])
        self.assertEqual([sorts(least, first=first) for first in range(1, 11)], [True, True] + [False] * 8)
        self.check_row(least, Order(10), 3, failing_row(least, first=3), True)
        known = Order(10, [(9, 0), (8, 2)])
        self.check_row(least, known, 4, failing_row(least, known=known, first=4), True)

    def test_told_lists_are_new(self):
        network = Network(2)
        failing_words(network).append("01")
        failing_words(network).clear()
        self.assertEqual(failing_words(network), ["10"])

    def test_equal_calls_return_equal_rows(self):
        for network in networks(4, 1):
            self.assertEqual(failing_row(network), failing_row(Network(4, list(network))))

    def test_they_raise(self):
        for call in SEARCHING:
            for value in wrong_networks():
                with self.subTest(call=call, value=value):
                    self.assert_raises("NotNetwork", value, call, value)
            for value in wrong_orders():
                with self.subTest(call=call, value=value):
                    self.assert_raises("NotOrder", value, call, sorter(3), known=value)
            for value in wrong_firsts(3):
                with self.subTest(call=call, value=value):
                    self.assert_raises("InvalidFirst", value, call, sorter(3), first=value)
                    self.assert_raises("InvalidFirst", value, call, Network(3), known=chains([3]), first=value)
            self.assert_raises_equal("UnlikeSizes", (3, 4), call, Network(3), known=Order(4))
            self.assert_raises_equal("UnlikeSizes", (10, 1), call, sorter(10), known=Order(1))
            for size in [11, 12, 60]:
                self.assert_raises_equal("TooLarge", size, call, Network(size))
                self.assert_raises_equal("TooLarge", size, call, sorter(size), known=chains([size]), first=1)

    def test_the_first_wrong_argument_is_told(self):
        for call in SEARCHING:
            self.assert_due(call, {"network": Network(11), "known": Order(11), "first": 11},
                            ("NotNetwork", {"network": [3]}), ("NotOrder", {"known": [3]}),
                            ("UnlikeSizes", {"known": Order(3)}, (11, 3)), ("InvalidFirst", {"first": [12]}),
                            ("TooLarge", {}, 11))

    def test_known_and_first_are_passed_by_name_only(self):
        for call in SEARCHING:
            for passed in [(Order(3),), (None, 1)]:
                with self.assertRaises(TypeError):
                    call(Network(3), *passed)


class Point27(ProgramTest):
    def test_rows_and_words_of_small_sizes(self):
        some = [(Network(1), Order(1)), *itertools.product(networks(3, 2), orders(3, 6)[::3]),
                (mixed_network(4), Order(4, [(3, 0), (1, 2)]))]
        for network, order in some:
            for first in all_firsts(network.size):
                for value in [*all_rows(network.size), *all_words(network.size)]:
                    expected = fitting([value], order) == [value] and not brings_out(network, value, first)
                    self.assertIs(is_failing(network, value, known=order, first=first), expected)
                    if not isinstance(value, str):
                        self.assertIs(is_failing(network, list(value), known=order, first=first), expected)

    def test_without_a_known_order_all_rows_and_words_fit(self):
        for network in networks(3, 3):
            for value in [*plain_rows(3), *all_words(3), (7, 7, -7), (10 ** 29, 0, 5)]:
                self.assertIs(is_failing(network, value), not brings_out(network, value, None))

    def test_great_sizes(self):
        network = Network(60)
        self.assertEqual([is_failing(network, "1" * 59 + "0"), is_failing(network, "0" * 59 + "1"),
                          is_failing(network, list(range(60, 0, -1))), is_failing(network, tuple(range(60)))],
                         [True, False, True, False])
        self.assertIs(is_failing(network, "1" * 59 + "0", known=chains([60])), False)
        self.assertIs(is_failing(network, "0" * 30 + "10" * 15, first=30), False)
        self.assertIs(is_failing(sorter(60), "10" * 30), False)

    def test_any_other_value_is_none(self):
        for value in ["10", "1000", (1, 0), [3, 2, 1, 0], (1, 0, False), [True, False, False], ("1", "0", "0"), 100, 1,
                      [(1, 0, 0)], ["100"], {2: 1, 1: 2, 0: 3}, *wrong_values()]:
            with self.subTest(value=value):
                self.assertIs(is_failing(Network(3), value), False)
                self.assertIs(is_failing(Network(3), value, known=Order(3, [(1, 0)]), first=2), False)

    def test_arguments_by_name(self):
        self.assertIs(is_failing(first=1, known=Order(3), value=[2, 1, 0], network=Network(3)), True)
        row = [2, 1, 0]
        is_failing(sorter(3), row)
        self.assertEqual(row, [2, 1, 0])

    def test_is_failing_raises(self):
        for value in wrong_networks():
            with self.subTest(value=value):
                self.assert_raises("NotNetwork", value, is_failing, value, None)
                self.assert_raises("NotNetwork", value, is_failing, value, "10")
        for value in wrong_orders():
            with self.subTest(value=value):
                self.assert_raises("NotOrder", value, is_failing, Network(3), None, known=value)
                self.assert_raises("NotOrder", value, is_failing, Network(3), "100", known=value)
        for value in wrong_firsts(3):
            with self.subTest(value=value):
                self.assert_raises("InvalidFirst", value, is_failing, Network(3), None, first=value)
                self.assert_raises("InvalidFirst", value, is_failing, Network(3), "100", first=value)
        self.assert_due(is_failing, {"network": Network(60), "value": [None], "known": Order(60), "first": 60},
                        ("NotNetwork", {"network": [3]}), ("NotOrder", {"known": [3]}),
                        ("UnlikeSizes", {"known": Order(3)}, (60, 3)), ("InvalidFirst", {"first": [61]}))


if __name__ == "__main__":
    unittest.main()
