import unittest

from enoughtests.networks import Network, sorter
from enoughtests.orders import Order, chains
from enoughtests.outcomes import alike, idle_steps, never_above, out_order, parting_row, rank_row, ranks, source_row
from enoughtests.outcomes import sources

from helping import ProgramTest, all_rows, cases, fitting, made, networks, orders, plain_rows, wrong_lines
from helping import wrong_networks, wrong_orders

# Each function of this stage with right arguments for networks of a size.
CALLS = [
    (never_above, {"one": 0, "other": 0}), (out_order, {}), (idle_steps, {}), (ranks, {"line": 0}),
    (sources, {"line": 0}), (rank_row, {"line": 0, "rank": 0}), (source_row, {"line": 0, "source": 0}),
]


def named_cases():
    """The cases with the order as a named argument, which is sometimes left out where it has no pairs."""
    for at, (network, order) in enumerate(cases()):
        yield network, order, {} if at % 2 == 1 and len(order) == 0 else {"known": order}


class Examples(unittest.TestCase):
    def test_examples_of_the_interface(self):
        network = Network(3, [(0, 2), (0, 1)])
        self.assertEqual(
            [out_order(network).pairs, never_above(network, 1, 2), ranks(network, 1), sources(network, 2),
             rank_row(network, 0, 1)],
            [((0, 1), (0, 2)), False, [1, 2], [0, 2], None])
        longer = Network(3, [(0, 2), (0, 1), (0, 2)])
        self.assertEqual(
            [alike(network, longer), parting_row(network, longer), idle_steps(longer),
             idle_steps(network, known=Order(3, [(0, 2)]))],
            [True, None, [2], [0]])


class OutcomeTest(ProgramTest):
    def check_row(self, row, order):
        """A row is a tuple with the integers from 0 on that fits."""
        self.assertIs(type(row), tuple)
        self.assertEqual(sorted(row), list(range(order.size)))
        self.assertEqual(fitting([row], order), [row])

    def check_general_exceptions(self, call, named):
        """What all functions of this stage with one network raise for it, for the known order and for great sizes."""
        for value in wrong_networks():
            with self.subTest(call=call, value=value):
                self.assert_raises("NotNetwork", value, call, network=value, **named)
        for value in wrong_orders():
            with self.subTest(call=call, value=value):
                self.assert_raises("NotOrder", value, call, network=sorter(3), known=value, **named)
        self.assert_raises_equal("UnlikeSizes", (3, 4), call, network=Network(3), known=Order(4), **named)
        self.assert_raises_equal("UnlikeSizes", (10, 1), call, network=Network(10), known=Order(1), **named)
        for size in [11, 12, 60]:
            self.assert_raises_equal("TooLarge", size, call, network=Network(size), **named)
            self.assert_raises_equal("TooLarge", size, call, network=sorter(size), known=chains([size]), **named)


class AllFunctions(OutcomeTest):
    def test_what_they_raise_for_networks_orders_and_sizes(self):
        for call, named in CALLS:
            self.check_general_exceptions(call, named)

    def test_known_is_passed_by_name_only(self):
        for call, named in CALLS:
            with self.assertRaises(TypeError):
                call(Network(3), *named.values(), Order(3))

    def test_told_lists_are_new(self):
        network = Network(2, [(0, 1), (0, 1)])
        for call, named in [(ranks, {"line": 0}), (sources, {"line": 0}), (idle_steps, {})]:
            told = call(network, **named)
            again = call(network, **named)
            self.assertGreater(len(told), 0)
            told.clear()
            self.assertEqual(call(network, **named), again)

    def test_equal_calls_return_equal_rows(self):
        for network in networks(3, 3):
            other = Network(3, list(network))
            self.assertEqual(rank_row(network, 1, 1), rank_row(other, 1, 1))
            self.assertEqual(source_row(network, 1, 1), source_row(other, 1, 1))
            self.assertEqual(parting_row(network, sorter(3)), parting_row(other, sorter(3)))


class Point28(OutcomeTest):
    def test_small_networks(self):
        for network, order, named in named_cases():
            came = [made(network, row) for row in fitting(all_rows(network.size), order)]
            pairs = []
            for one in range(network.size):
                for other in range(network.size):
                    expected = all(row[one] <= row[other] for row in came)
                    self.assertIs(never_above(network, one, other, **named), expected)
                    if expected and one != other:
                        pairs.append((one, other))
            told = out_order(network, **named)
            self.assertIs(type(told), Order)
            self.assertEqual((told.size, told.pairs), (network.size, tuple(pairs)))

    def test_what_comes_out_of_sorters_is_sorted(self):
        for size in range(1, 11):
            self.assertEqual(out_order(sorter(size)), chains([size]))
            self.assertIs(never_above(sorter(size), 0, size - 1), True)
            self.assertIs(never_above(sorter(size), size - 1, 0), size == 1)

    def test_what_comes_out_without_steps_is_what_is_known(self):
        for order in [*orders(3, 6), chains([4, 6]), Order(10, [(9, 0), (5, 9)])]:
            self.assertEqual(out_order(Network(order.size), known=order), order)
        self.assertEqual(out_order(Network(4)), Order(4))

    def test_arguments_by_name(self):
        self.assertIs(never_above(known=Order(2, [(1, 0)]), other=0, one=1, network=Network(2)), True)
        self.assertIs(never_above(Network(2, [(0, 1)]), 1, 0), False)
        self.assertEqual(out_order(known=Order(2, [(1, 0)]), network=Network(2)), Order(2, [(1, 0)]))

    def test_never_above_raises_for_wrong_lines(self):
        for value in wrong_lines(3):
            with self.subTest(value=value):
                self.assert_raises("InvalidLine", value, never_above, Network(3), value, 0)
                self.assert_raises("InvalidLine", value, never_above, Network(3), 2, value)
                self.assert_raises("InvalidLine", value, never_above, Network(3), value, None)

    def test_the_first_wrong_argument_is_told(self):
        known = [("NotOrder", {"known": [3]}), ("UnlikeSizes", {"known": Order(3)}, (11, 3)), ("TooLarge", {}, 11)]
        self.assert_due(never_above, {"network": Network(11), "one": 0, "other": 1, "known": Order(11)},
                        ("NotNetwork", {"network": [3]}), ("InvalidLine", {"one": [11]}),
                        ("InvalidLine", {"other": [12]}), *known)
        self.assert_due(out_order, {"network": Network(11), "known": Order(11)},
                        ("NotNetwork", {"network": [3]}), *known)


class Point29(OutcomeTest):
    def test_small_networks(self):
        for network, order, named in named_cases():
            rows = fitting(plain_rows(network.size), order)
            for line in range(network.size):
                came = {row: made(network, row)[line] for row in rows}
                self.check_ranks(network, line, order, named, came)
                self.check_sources(network, line, order, named, came)

    def check_ranks(self, network, line, order, named, came):
        expected = sorted(set(came.values()))
        self.assertEqual(ranks(network, line, **named), expected)
        for rank in range(network.size):
            row = rank_row(network, line, rank, **named)
            if rank not in expected:
                self.assertIsNone(row)
            else:
                self.check_row(row, order)
                self.assertEqual(made(network, row)[line], rank)

    def check_sources(self, network, line, order, named, came):
        expected = sorted({row.index(item) for row, item in came.items()})
        self.assertEqual(sources(network, line, **named), expected)
        for source in range(network.size):
            row = source_row(network, line, source, **named)
            if source not in expected:
                self.assertIsNone(row)
            else:
                self.check_row(row, order)
                self.assertEqual(made(network, row)[line], row[source])

    def test_size_ten(self):
        for line in range(10):
            self.assertEqual(ranks(sorter(10), line), [line])
            self.assertEqual(sources(sorter(10), line), list(range(10)))
            self.assertEqual(ranks(Network(10), line), list(range(10)))
            self.assertEqual(sources(Network(10), line), [line])
            self.assertEqual(ranks(Network(10), line, known=chains([10])), [line])
            self.assertEqual(made(sorter(10), source_row(sorter(10), line, 3)), list(range(10)))
            self.assertEqual(source_row(sorter(10), line, 3)[3], line)
            self.assertEqual(rank_row(Network(10), line, 7)[line], 7)
        self.assertEqual(ranks(Network(10), 4, known=chains([4, 6])), [0, 1, 2, 3, 4])
        self.assertEqual(sources(sorter(10), 0, known=chains([4, 6])), [0, 4])
        self.check_row(rank_row(Network(10), 4, 4, known=chains([4, 6])), chains([4, 6]))
        self.assertIsNone(rank_row(Network(10), 4, 5, known=chains([4, 6])))
        self.assertIsNone(source_row(sorter(10), 0, 5, known=chains([4, 6])))

    def test_arguments_by_name(self):
        known = Order(3, [(1, 0)])
        self.assertEqual(ranks(known=known, line=1, network=Network(3)), [0, 1])
        self.assertEqual(sources(known=known, line=1, network=Network(3)), [1])
        self.assertEqual(rank_row(known=known, rank=1, line=1, network=Network(3))[1], 1)
        self.assertIsNone(source_row(known=known, source=0, line=1, network=Network(3)))

    def test_wrong_lines_and_ranks(self):
        network = Network(3, [(0, 1)])
        for value in wrong_lines(3):
            with self.subTest(value=value):
                self.assert_raises("InvalidLine", value, ranks, network, value)
                self.assert_raises("InvalidLine", value, sources, network, value)
                self.assert_raises("InvalidLine", value, rank_row, network, value, None)
                self.assert_raises("InvalidLine", value, source_row, network, value, None)
                self.assert_raises("InvalidRank", value, rank_row, network, 2, value)
                self.assert_raises("InvalidLine", value, source_row, network, 2, value)

    def test_the_first_wrong_argument_is_told(self):
        start = [("NotNetwork", {"network": [3]}), ("InvalidLine", {"line": [11]})]
        known = [("NotOrder", {"known": [3]}), ("UnlikeSizes", {"known": Order(3)}, (11, 3)), ("TooLarge", {}, 11)]
        right = {"network": Network(11), "line": 0, "known": Order(11)}
        self.assert_due(ranks, right, *start, *known)
        self.assert_due(sources, right, *start, *known)
        self.assert_due(rank_row, {**right, "rank": 0}, *start, ("InvalidRank", {"rank": [11]}), *known)
        self.assert_due(source_row, {**right, "source": 0}, *start, ("InvalidLine", {"source": [12]}), *known)


class Point30(OutcomeTest):
    def check_two(self, one, other, order, named):
        rows = [row for row in fitting(plain_rows(one.size), order) if made(one, row) != made(other, row)]
        ties = [row for row in fitting(all_rows(one.size), order) if made(one, row) != made(other, row)]
        self.assertIs(alike(one, other, **named), ties == [])
        row = parting_row(one, other, **named)
        if rows:
            self.check_row(row, order)
            self.assertNotEqual(made(one, row), made(other, row))
        else:
            self.assertIsNone(row)

    def test_two_small_networks(self):
        for network, order, named in named_cases():
            reversed_steps = Network(network.size, list(network)[::-1])
            for other in [network, ~network, reversed_steps, Network(network.size), sorter(network.size)]:
                self.check_two(network, other, order, named)
        for one in networks(3, 2):
            for other in networks(3, 3):
                self.check_two(one, other, Order(3), {})

    def test_two_networks_of_size_ten(self):
        network = sorter(10)
        self.assertEqual((alike(network, ~network), parting_row(network, ~network)), (True, None))
        self.assertIs(alike(network, network * Network(10, [(0, 9)])), True)
        less = network.without(0)
        row = parting_row(network, less)
        self.assertNotEqual(network(row), less(row))
        self.assertIs(alike(network, less), False)
        self.assertIs(alike(network, Network(10), known=chains([10])), True)
        self.check_row(parting_row(network, Network(10), known=chains([4, 6])), chains([4, 6]))

    def test_idle_steps_of_small_networks(self):
        for network, order, named in named_cases():
            steps = list(network)
            expected = list(range(len(steps)))
            for row in fitting(all_rows(network.size), order):
                expected = [index for index in expected
                            if made(steps[:index], row)[steps[index][0]] <= made(steps[:index], row)[steps[index][1]]]
            self.assertEqual(idle_steps(network, **named), expected)

    def test_idle_steps_of_size_ten(self):
        network = sorter(10)
        self.assertEqual(idle_steps(network), [])
        self.assertEqual(idle_steps(network, known=chains([10])), list(range(45)))
        self.assertEqual(idle_steps(network * network), list(range(45, 90)))
        self.assertEqual(idle_steps(Network(10)), [])
        self.assertEqual(idle_steps(Network(10, [(0, 1)] * 2000)), list(range(1, 2000)))

    def test_arguments_by_name(self):
        one, other, known = Network(2, [(0, 1)]), Network(2), Order(2, [(0, 1)])
        self.assertEqual((alike(known=known, other=other, one=one), alike(one, other)), (True, False))
        self.assertEqual((parting_row(known=known, other=other, one=one), parting_row(one, other)), (None, (1, 0)))
        self.assertEqual((idle_steps(known=known, network=one), idle_steps(one)), ([0], []))

    def test_two_networks_raise(self):
        for call in [alike, parting_row]:
            for value in wrong_networks():
                with self.subTest(call=call, value=value):
                    self.assert_raises("NotNetwork", value, call, value, Network(3))
                    self.assert_raises("NotNetwork", value, call, Network(3), value)
                    self.assert_raises("NotNetwork", value, call, value, None)
            for value in wrong_orders():
                with self.subTest(call=call, value=value):
                    self.assert_raises("NotOrder", value, call, sorter(3), sorter(3), known=value)
            self.assert_raises_equal("UnlikeSizes", (3, 4), call, Network(3), Network(4))
            self.assert_raises_equal("UnlikeSizes", (3, 4), call, Network(3), Network(3), known=Order(4))
            for size in [11, 12, 60]:
                self.assert_raises_equal("TooLarge", size, call, Network(size), Network(size))
                self.assert_raises_equal("TooLarge", size, call, sorter(size), sorter(size), known=chains([size]))
            with self.assertRaises(TypeError):
                call(Network(3), Network(3), Order(3))

    def test_the_first_wrong_argument_is_told(self):
        known = [("NotOrder", {"known": [3]}), ("UnlikeSizes", {"known": Order(3)}, (11, 3)), ("TooLarge", {}, 11)]
        for call in [alike, parting_row]:
            self.assert_due(call, {"one": Network(11), "other": Network(11), "known": Order(11)},
                            ("NotNetwork", {"one": [3]}), ("NotNetwork", {"other": [4]}),
                            ("UnlikeSizes", {"other": Network(12)}, (11, 12)), *known)
        self.assert_due(idle_steps, {"network": Network(11), "known": Order(11)},
                        ("NotNetwork", {"network": [3]}), *known)


if __name__ == "__main__":
    unittest.main()
