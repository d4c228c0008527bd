import itertools
import types
import unittest

from enoughtests.orders import Order, chains, needed
from enoughtests.words import is_sorted, mirrored, words_of

from helping import ProgramTest, all_words, count_events, fitting, orders, reached, some_pairs, wrong_values


def fitting_chains(order):
    """All chains of words that fit, the empty one included."""
    found = [[]]
    for words in found:
        for word in fitting(all_words(order.size), order):
            if not words or (word != words[-1] and all(a <= b for a, b in zip(words[-1], word))):
                found.append([*words, word])
    return found


class Examples(ProgramTest):
    def test_examples_of_the_interface(self):
        order = Order(3, [(0, 1)])
        self.assertEqual(
            [order.words(), order.row_count(), list(order.rows())[0], order.fits((2, 1, 3)), (~order).pairs],
            [["000", "001", "010", "011", "110", "111"], 3, (0, 1, 2), False, ((1, 2),)])
        self.assertEqual(
            [needed(order), needed(Order(3)), needed(Order(3), first=1), chains([2, 1]) == order, len(chains([3, 2]))],
            [["010", "110"], ["010", "100", "101", "110"], ["101", "110"], True, 4])
        self.assert_raises_equal("Ring", [0, 1, 2], Order, 4, [(0, 1), (1, 2), (2, 0)])


class Point17(ProgramTest):
    def test_pairs_that_follow_are_there_in_ascending_order(self):
        order = Order(4, [(3, 0), (0, 2), (2, 1)])
        self.assertEqual(order.size, 4)
        self.assertEqual(order.pairs, ((0, 1), (0, 2), (2, 1), (3, 0), (3, 1), (3, 2)))
        self.assertIs(type(order.pairs), tuple)

    def test_all_lists_of_pairs_of_small_sizes(self):
        for size, most in [(1, 0), (2, 2), (3, 6), (4, 12), (5, 2)]:
            for pairs in some_pairs(size, most):
                follow = reached(pairs)
                ring = [line for line in range(size) if (line, line) in follow]
                if ring:
                    self.assert_raises_equal("Ring", ring, Order, size, list(pairs))
                else:
                    self.assertEqual(Order(size, list(pairs)).pairs, tuple(follow))

    def test_an_order_without_pairs(self):
        for order in [Order(3), Order(3, []), Order(3, ()), Order(size=3), Order(pairs=[], size=3)]:
            self.assertEqual((order.size, order.pairs, len(order), list(order)), (3, (), 0, []))
            self.assertEqual(order, Order(3))

    def test_pairs_that_are_passed_twice(self):
        order = Order(3, [(0, 1), (1, 2), (0, 1), (0, 2)])
        self.assertEqual(order.pairs, ((0, 1), (0, 2), (1, 2)))
        self.assertEqual(len(order), 3)

    def test_the_least_and_the_greatest_size(self):
        self.assertEqual((Order(1).size, Order(1).pairs), (1, ()))
        order = Order(60, [(line + 1, line) for line in range(59)])
        self.assertEqual(len(order), 1770)
        self.assertIn((59, 0), order)
        self.assertEqual(order.pairs, tuple((a, b) for a in range(60) for b in range(a)))

    def test_wrong_sizes(self):
        for value in [0, 61, -1, 10 ** 29, "3", [3], *wrong_values()]:
            with self.subTest(value=value):
                self.assert_raises("InvalidSize", value, Order, value)
                self.assert_raises("InvalidSize", value, Order, value, None)
                self.assert_raises("InvalidSize", value, Order, size=value, pairs=[(0, 0)])

    def test_wrong_pairs(self):
        for value in [None, True, False, 0, 2, "", "01", {}, {0: 1}, {"a": (0, 1)}, Order(3), Order(3, [(0, 1)])]:
            with self.subTest(value=value):
                self.assert_raises("InvalidPairs", value, Order, 3, value)
                self.assert_raises("InvalidPairs", value, Order, size=3, pairs=value)

    def test_wrong_items_of_pairs(self):
        for item in [0, 1, [0, 1], "01", ("0", "1"), (0,), (0, 1, 2), (0, 0), (2, 2), (0, 3), (3, 0), (-1, 0), (0, -1),
                     (True, 2), (2, True), (False, 1), (1, False), (0, None), (0, [1]), ((0, 1), 2), {0: 1},
                     *wrong_values()]:
            with self.subTest(item=item):
                self.assert_raises("InvalidPair", item, Order, 3, [item])
                self.assert_raises("InvalidPair", item, Order, 3, ((0, 1), item, None))
                self.assert_raises("InvalidPair", item, Order, 3, [(0, 1), (1, 0), item])

    def test_lines_of_a_ring(self):
        self.assert_raises_equal("Ring", [0, 1], Order, 2, [(1, 0), (0, 1)])
        pairs = [(0, 5), (5, 1), (1, 5), (4, 2), (2, 4), (4, 6), (0, 3)]
        self.assert_raises_equal("Ring", [1, 2, 4, 5], Order, 7, pairs)
        self.assert_raises_equal("Ring", list(range(60)), Order, 60, [(line, (line + 1) % 60) for line in range(60)])

    def test_which_values_are_in_an_order(self):
        order = Order(4, [(0, 1), (1, 2)])
        for pair in [(0, 1), (1, 2), (0, 2)]:
            self.assertIs(pair in order, True)
        for value in [(1, 0), (2, 1), (0, 3), (3, 0), (0, 0), [0, 1], (0,), (0, 1, 2), (0, 4), (-1, 1), "01", 0, 1,
                      (False, True), (0, True), (False, 1), (True, 2), ((0, 1),), order, {0: 1}, *wrong_values()]:
            with self.subTest(value=value):
                self.assertIs(value in order, False)
        self.assertIs((1, 0) in Order(2, [(1, 0)]), True)

    def test_an_iteration_goes_through_the_pairs(self):
        order = Order(4, [(3, 1), (1, 0)])
        self.assertEqual(list(order), [(1, 0), (3, 0), (3, 1)])
        self.assertEqual([*order, *order], [(1, 0), (3, 0), (3, 1)] * 2)

    def test_equal_orders(self):
        order = Order(3, [(0, 1), (1, 2)])
        self.assertTrue(order == Order(3, [(1, 2), (0, 1), (0, 2)]))
        self.assertFalse(order != Order(3, [(1, 2), (0, 1), (0, 2)]))
        self.assertFalse(order == Order(3, [(0, 1)]))
        self.assertTrue(order != Order(3, [(0, 1)]))
        self.assertFalse(order == Order(4, [(0, 1), (1, 2)]))
        self.assertFalse(Order(3) == Order(4))
        for value in [order.pairs, list(order.pairs), 3, "order", *wrong_values()]:
            self.assertIs(order == value, False)
            self.assertIs(order != value, True)

    def test_an_order_copies_its_pairs(self):
        pairs = [(0, 1)]
        order = Order(3, pairs)
        pairs.append((1, 2))
        self.assertEqual(order.pairs, ((0, 1),))
        self.assertEqual(order.words(), ["000", "001", "010", "011", "110", "111"])
        self.assertEqual(pairs, [(0, 1), (1, 2)])

    def test_pairs_are_not_modified(self):
        pairs = [(1, 2), (0, 1)]
        Order(3, pairs)
        self.assertEqual(pairs, [(1, 2), (0, 1)])

    def test_a_ring_leaves_nothing_behind(self):
        pairs = [(0, 1), (1, 0)]
        self.assert_raises_equal("Ring", [0, 1], Order, 2, pairs)
        self.assertEqual(pairs, [(0, 1), (1, 0)])


class Point18(ProgramTest):
    def test_the_pairs_of_both_and_all_that_follow(self):
        one, other = Order(4, [(0, 1)]), Order(4, [(1, 2), (3, 0)])
        self.assertEqual(one | other, Order(4, [(0, 1), (1, 2), (3, 0)]))
        self.assertIn((3, 2), one | other)
        self.assertEqual((one.pairs, other.pairs), (((0, 1),), ((1, 2), (3, 0))))
        self.assertEqual(one | Order(4), one)
        self.assertEqual(one | one, one)
        self.assertEqual(len(chains([60]) | chains([60])), 1770)

    def test_both_for_all_orders_of_size_three(self):
        for one in orders(3, 6):
            for other in orders(3, 6):
                follow = reached([*one, *other])
                ring = [line for line in range(3) if (line, line) in follow]
                if ring:
                    self.assert_raises_equal("Ring", ring, lambda: one | other)
                else:
                    self.assertEqual((one | other).pairs, tuple(follow))

    def test_both_raises(self):
        order = Order(3, [(0, 1)])
        for value in [0, [(1, 2)], ((1, 2),), "01", *wrong_values()]:
            with self.subTest(value=value):
                if not isinstance(value, Order):
                    self.assert_raises("NotOrder", value, lambda: order | value)
        self.assert_raises_equal("UnlikeSizes", (3, 4), lambda: order | Order(4, [(1, 0)]))
        self.assert_raises_equal("UnlikeSizes", (60, 1), lambda: Order(60) | Order(1))
        self.assert_raises_equal("Ring", [0, 1], lambda: order | Order(3, [(1, 0)]))

    def test_mirrored_orders(self):
        self.assertEqual(~Order(5, [(0, 1), (3, 0)]), Order(5, [(3, 4), (4, 1)]))
        self.assertEqual(~Order(1), Order(1))
        self.assertEqual(~chains([60]), chains([60]))
        for order in orders(4, 3):
            self.assertEqual(~~order, order)
            self.assertEqual((~order).pairs, tuple(sorted((3 - b, 3 - a) for a, b in order)))

    def test_a_value_fits_exactly_if_the_mirrored_one_fits_the_mirrored_order(self):
        rows = list(itertools.product((0, 1, 2), repeat=3))
        for order in orders(3, 6):
            for value in [*rows, *all_words(3)]:
                self.assertIs((~order).fits(mirrored(value)), order.fits(value))

    def test_chains(self):
        self.assertEqual(chains([3]), Order(3, [(0, 1), (1, 2)]))
        self.assertEqual(chains([2, 3, 1]), Order(6, [(0, 1), (2, 3), (3, 4)]))
        self.assertEqual(chains((1, 1)), Order(2))
        self.assertEqual(chains(sizes=[1]), Order(1))
        self.assertEqual(chains([1] * 60), Order(60))
        self.assertEqual(len(chains([60])), 1770)
        self.assertEqual(len(chains([30, 30])), 870)

    def test_wrong_sizes_of_chains(self):
        for value in [0, 3, [], (), [0], [1, 0], [-1, 3], [61], [60, 1], [1] * 61, [True], [2, True], [False, 1], ["1"],
                      [1, None], [[1]], [10 ** 29], [1] * 2000, "11", {1: 1}, Order(2), None, True, {}, "", (2, [1])]:
            with self.subTest(value=value):
                self.assert_raises("InvalidSizes", value, chains, value)

    def test_sizes_are_not_modified(self):
        sizes = [2, 1]
        order = chains(sizes)
        sizes.append(3)
        self.assertEqual((order.size, sizes), (3, [2, 1, 3]))


class Point19(ProgramTest):
    def test_fits_for_rows(self):
        order = Order(3, [(0, 2), (2, 1)])
        for row in itertools.product((-1, 0, 10), repeat=3):
            expected = row[0] <= row[2] <= row[1]
            self.assertIs(order.fits(row), expected)
            self.assertIs(order.fits(list(row)), expected)
        self.assertIs(order.fits(value=(5, 5, 5)), True)

    def test_fits_for_words(self):
        order = Order(3, [(0, 2), (2, 1)])
        self.assertEqual([word for word in all_words(3) if order.fits(word)], ["000", "010", "011", "111"])
        self.assertIs(chains([60]).fits("0" * 30 + "1" * 30), True)
        self.assertIs(chains([60]).fits("1" + "0" * 59), False)
        self.assertIs(chains([60]).fits(tuple(range(60))), True)

    def test_everything_fits_an_order_without_pairs(self):
        self.assertIs(Order(3).fits("100"), True)
        self.assertIs(Order(3).fits([3, 2, 1]), True)

    def test_fits_raises_for_other_values(self):
        for value in ["01", "0011", (0, 1), (0, 1, 2, 3), [0], (0, 1, True), [0, 1, None], ["0", "1", "1"], 0, 11,
                      Order(3), *wrong_values()]:
            with self.subTest(value=value):
                self.assert_raises("InvalidRow", value, Order(3, [(0, 1)]).fits, value)
                self.assert_raises("InvalidRow", value, Order(3).fits, value)

    def test_words_and_rows_of_all_small_orders(self):
        for size, most in [(1, 0), (2, 1), (3, 6), (4, 12), (5, 3)]:
            for order in orders(size, most):
                words = fitting(all_words(size), order)
                rows = fitting(itertools.permutations(range(size)), order)
                self.assertEqual(order.words(), words)
                self.assertEqual(order.word_count(), len(words))
                self.assertEqual(list(order.rows()), rows)
                self.assertEqual(order.row_count(), len(rows))

    def test_words_and_rows_of_some_larger_orders(self):
        for order in [Order(6, [(5, 0), (0, 3), (4, 3)]), chains([2, 2, 2]), Order(6, [(a, 0) for a in range(1, 6)]),
                      Order(7, [(6, 1), (5, 1), (1, 0), (1, 2), (3, 4)]), chains([3, 4]), Order(7)]:
            rows = fitting(itertools.permutations(range(order.size)), order)
            self.assertEqual(order.words(), fitting(all_words(order.size), order))
            self.assertEqual(list(order.rows()), rows)
            self.assertEqual(order.row_count(), len(rows))

    def test_counts_of_size_ten(self):
        self.assertEqual((Order(10).word_count(), Order(10).row_count()), (1024, 3628800))
        self.assertEqual((chains([10]).word_count(), chains([10]).row_count()), (11, 1))
        self.assertEqual((chains([5, 5]).word_count(), chains([5, 5]).row_count()), (36, 252))
        self.assertEqual(len(list(chains([5, 5]).rows())), 252)

    def test_rows_is_a_generator_of_tuples(self):
        order = Order(3, [(2, 0)])
        rows = order.rows()
        self.assertIsInstance(rows, types.GeneratorType)
        self.assertEqual(next(rows), (1, 2, 0))
        self.assertEqual(next(order.rows()), (1, 2, 0))
        self.assertEqual(list(rows), [(2, 0, 1), (2, 1, 0)])

    def test_rows_does_not_go_through_rows_that_do_not_fit(self):
        for pairs, row in [
                ([(line + 1, line) for line in range(9)], (9, 8, 7, 6, 5, 4, 3, 2, 1, 0)),
                ([(9, line) for line in range(9)], (1, 2, 3, 4, 5, 6, 7, 8, 9, 0)),
                ([(line, 0) for line in range(5, 10)], (5, 6, 7, 8, 9, 0, 1, 2, 3, 4)),
                ([(a, b) for a in range(5, 10) for b in range(5)], (5, 6, 7, 8, 9, 0, 1, 2, 3, 4))]:
            order = Order(10, pairs)
            self.assertEqual(next(order.rows()), row)
            self.assertLess(count_events(lambda: next(order.rows())), 50000)
        falling = Order(10, [(line + 1, line) for line in range(9)])
        self.assertEqual(len(list(falling.rows())), 1)
        self.assertLess(count_events(lambda: list(falling.rows())), 50000)

    def test_row_count_goes_through_no_rows(self):
        self.assertLess(count_events(Order(10).row_count), 50000)

    def test_returned_lists_are_new(self):
        order = Order(2, [(0, 1)])
        order.words().append("10")
        order.words().clear()
        self.assertEqual(order.words(), ["00", "01", "11"])
        self.assertEqual(order.word_count(), 3)

    def test_sizes_above_ten(self):
        for size in [11, 12, 60]:
            for order in [Order(size), chains([size])]:
                self.assert_raises_equal("TooLarge", size, order.words)
                self.assert_raises_equal("TooLarge", size, order.word_count)
                self.assert_raises_equal("TooLarge", size, lambda: next(order.rows()))
                self.assert_raises_equal("TooLarge", size, order.row_count)


class Point20(ProgramTest):
    def check_row_through(self, order, words):
        row = order.row_through(words)
        self.assertIs(type(row), tuple)
        self.assertEqual(sorted(row), list(range(order.size)))
        self.assertTrue(all(row[a] < row[b] for a, b in order.pairs))
        self.assertEqual({word for word in words if "0" in word and "1" in word} - set(words_of(row)), set())

    def test_row_through_all_chains_of_small_orders(self):
        for size, most in [(1, 0), (2, 1), (3, 6), (4, 2)]:
            for order in orders(size, most):
                for words in fitting_chains(order):
                    self.check_row_through(order, words)

    def test_row_through_no_words(self):
        self.check_row_through(Order(4, [(3, 0), (0, 1)]), [])
        self.check_row_through(Order(4, [(3, 0), (0, 1)]), ())
        self.assertEqual(chains([3]).row_through(words=[]), (0, 1, 2))

    def test_row_through_chains_of_the_greatest_size(self):
        words = ["0" * (60 - ones) + "1" * ones for ones in range(61)]
        self.assertEqual(chains([60]).row_through(words), tuple(range(60)))
        self.check_row_through(Order(60, [(line + 1, line) for line in range(59)]), [])
        words = ["0" * 30 + "1" * 30, "0" * 19 + "1" + "0" * 10 + "1" * 30]
        self.check_row_through(chains([20, 40]), words)
        self.check_row_through(Order(60), ("10" * 30, "1" * 30 + "10" * 15))

    def test_row_through_raises_for_values_that_are_no_chains(self):
        order = Order(3, [(0, 1)])
        for value in [None, True, 0, "010", "", {}, {"010": 1}, Order(3), ["01"], ["0101"], ["010", "010"],
                      ["110", "010"], ["001", "110"], ["010", "11"], [None], [["010"]], ["010", 11], ["012"],
                      ("010", "001"), [(0, 1, 0)]]:
            with self.subTest(value=value):
                self.assert_raises("InvalidChain", value, order.row_through, value)
        self.assert_raises_equal("InvalidChain", ["100", "100"], order.row_through, ["100", "100"])

    def test_row_through_raises_for_the_first_word_that_does_not_fit(self):
        order = Order(4, [(0, 1)])
        self.assert_raises_equal("NotFitting", "1000", order.row_through, ["0000", "1000", "1001", "1101"])
        self.assert_raises_equal("NotFitting", "1010", order.row_through, ["0010", "1010"])
        self.assert_raises_equal("NotFitting", "1" + "0" * 59, chains([60]).row_through, ["1" + "0" * 59])

    def test_row_through_does_not_modify_the_chain(self):
        words = ["001", "101"]
        Order(3).row_through(words)
        self.assertEqual(words, ["001", "101"])

    def test_needed_words_of_all_small_orders(self):
        for size, most in [(1, 0), (2, 1), (3, 6), (4, 12)]:
            for order in orders(size, most):
                for first in [None, *range(1, size + 1)]:
                    limit = size if first is None else first
                    expected = [word for word in fitting(all_words(size), order)
                                if not is_sorted(word) and word.count("0") <= limit]
                    self.assertEqual(needed(order, first=first), expected)

    def test_needed_words(self):
        self.assertEqual(needed(Order(1)), [])
        self.assertEqual(needed(order=Order(2)), ["10"])
        self.assertEqual(needed(chains([10])), [])
        self.assertEqual(len(needed(Order(10))), 1024 - 11)
        self.assertEqual(len(needed(Order(10), first=1)), 9)
        self.assertEqual(len(needed(chains([4, 6]))), 24)

    def test_needed_returns_a_new_list(self):
        order = Order(2)
        needed(order).append("01")
        self.assertEqual(needed(order), ["10"])

    def test_needed_raises_for_values_that_are_no_orders(self):
        for value in [3, [(0, 1)], *wrong_values()]:
            if not isinstance(value, Order):
                with self.subTest(value=value):
                    self.assert_raises("NotOrder", value, needed, value)
                    self.assert_raises("NotOrder", value, needed, value, first=0)

    def test_needed_raises_for_wrong_numbers_of_first_items(self):
        wrong = [value for value in wrong_values() if value is not None]
        for value in [0, -1, 4, 60, 10 ** 29, True, "1", [1], (1,), *wrong]:
            with self.subTest(value=value):
                self.assert_raises("InvalidFirst", value, needed, Order(3), first=value)
        self.assert_raises_equal("InvalidFirst", 12, needed, Order(11), first=12)
        self.assert_raises_equal("InvalidFirst", 2, needed, Order(1), first=2)

    def test_needed_raises_for_sizes_above_ten(self):
        self.assert_raises_equal("TooLarge", 11, needed, Order(11))
        self.assert_raises_equal("TooLarge", 11, needed, chains([11]), first=11)
        self.assert_raises_equal("TooLarge", 60, needed, Order(60), first=1)

    def test_first_is_passed_by_name_only(self):
        with self.assertRaises(TypeError):
            needed(Order(3), 1)


if __name__ == "__main__":
    unittest.main()
