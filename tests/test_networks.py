import unittest

from enoughtests.networks import Network, sorter
from enoughtests.orders import Order
from enoughtests.words import is_sorted, mirrored

from helping import ProgramTest, all_rows, all_steps, all_words, made, mixed_network, networks, wrong_lines
from helping import wrong_networks, wrong_values

SIZES = [*range(1, 11), 60]


def some_rows(size):
    """Rows of a size with ties, with great items and with neither."""
    return [
        tuple(range(size)), tuple(range(size, 0, -1)), (5,) * size, (-10 ** 29,) * size,
        tuple(line * 7 % 4 for line in range(size)), tuple(line * 37 % 61 - 30 for line in range(size)),
        tuple((-1) ** line * 10 ** (line % 30) for line in range(size)),
        tuple(10 ** 29 - line % 3 for line in range(size)),
    ]


def some_words(size):
    if size <= 8:
        return all_words(size)
    return ["0" * size, "1" * size, ("10" * size)[:size], ("01" * size)[:size], ("1101000" * size)[:size],
            *["1" * ones + "0" * (size - ones) for ones in range(1, size)]]


def wrong_inputs(size):
    """Values that are neither rows nor words of a size, which is 3 or more."""
    return [0, 11, "0" * (size - 1), "0" * (size + 1), (0,) * (size - 1), [0] * (size + 1), (True,) * size,
            [0] * (size - 1) + [False], ["0"] * size, (0,) * (size - 1) + (None,), "2" + "0" * (size - 1),
            {line: 0 for line in range(size)}, [[0]] * size, *wrong_values()]


class Examples(ProgramTest):
    def test_examples_of_the_interface(self):
        network = Network(3, [(0, 2), (0, 1)])
        self.assertEqual(
            [network((2, 1, 0)), network([0, 2, 1]), network("101"), str(network), len(network), list(~network)],
            [(0, 1, 2), (0, 2, 1), "011", "3: 0-2 0-1", 2, [(0, 2), (1, 2)]])
        self.assertEqual(
            [network.trace("110"), Network.read("2:").beside(network) == network.on_lines(5, [2, 3, 4]),
             sorter(4)((3, 1, 2, 1))],
            [["110", "011", "011"], True, (1, 1, 2, 3)])
        self.assert_raises_equal("InvalidStep", (2, 1), Network, 3, [(0, 2), (2, 1)])


class Point21(ProgramTest):
    def check(self, network, value):
        """What comes out for a value and its trace are those that the steps make, in the kind of the value."""
        kind = str if isinstance(value, str) else tuple
        steps = list(network)
        traced = [made(steps[:many], value) for many in range(len(steps) + 1)]
        expected = ["".join(items) if kind is str else tuple(items) for items in traced]
        self.assertEqual(network(value), expected[-1])
        self.assertIs(type(network(value)), kind)
        self.assertEqual(network.trace(value), expected)
        self.assertEqual([type(told) for told in network.trace(value)], [kind] * (len(steps) + 1))

    def test_what_comes_out_of_all_small_networks(self):
        for size, most in [(1, 0), (2, 2), (3, 3), (4, 1)]:
            for network in networks(size, most):
                for row in all_rows(size):
                    self.check(network, row)
                    self.check(network, list(row))
                for word in all_words(size):
                    self.check(network, word)

    def test_what_comes_out_of_some_networks_of_all_sizes(self):
        for size in SIZES[:-1]:
            for row in some_rows(size):
                self.check(mixed_network(size), row)
                self.check(mixed_network(size), list(row))
            for word in some_words(size):
                self.check(mixed_network(size), word)

    def test_what_comes_out_of_great_networks(self):
        steps = [(0, 59), (58, 59), (0, 1), (7, 30), (30, 45)]
        for value in [*some_rows(60), *some_words(60)]:
            self.check(Network(60, steps), value)
        network = mixed_network(60)
        for row in some_rows(60):
            self.assertEqual(network(row), tuple(made(network, row)))
        for word in some_words(60):
            self.assertEqual(network(word), "".join(made(network, word)))
        long = Network(4, [(0, 1), (1, 2), (2, 3), (0, 3)] * 500)
        self.assertEqual((len(long), long("1100"), len(long.trace((3, 2, 1, 0)))), (2000, "0011", 2001))

    def test_the_lesser_value_is_left_at_the_first_line_of_a_step(self):
        network = Network(3, [(0, 2)])
        self.assertEqual([network((2, 9, 1)), network((1, 9, 2)), network((1, 9, 1))],
                         [(1, 9, 2), (1, 9, 2), (1, 9, 1)])
        self.assertEqual([network((10 ** 29, 0, -10 ** 29)), network([10, 0, 9])],
                         [(-10 ** 29, 0, 10 ** 29), (9, 0, 10)])

    def test_values_may_be_passed_by_name(self):
        network = Network(steps=[(0, 1)], size=2)
        self.assertEqual((network(value="10"), network.trace(value=[1, 0])), ("01", [(1, 0), (0, 1)]))

    def test_size_steps_and_their_number(self):
        for size in SIZES:
            for steps in [[], [(0, size - 1)] * (size > 1), all_steps(size), all_steps(size)[::-1]]:
                network = Network(size, steps)
                self.assertEqual((network.size, len(network), list(network)), (size, len(steps), steps))
                self.assertEqual([*network, *network], steps + steps)
        self.assertEqual(list(Network(3, [(1, 2), (0, 1), (1, 2), (1, 2)])), [(1, 2), (0, 1), (1, 2), (1, 2)])

    def test_networks_without_steps(self):
        for network in [Network(3), Network(3, []), Network(3, ()), Network(size=3)]:
            self.assertEqual((network.size, len(network), list(network)), (3, 0, []))
            self.assertEqual((network("100"), network([3, 2, 1])), ("100", (3, 2, 1)))
            self.assertEqual((network.trace("100"), network.trace([3, 2, 1])), (["100"], [(3, 2, 1)]))

    def test_a_list_of_steps_may_be_a_tuple(self):
        self.assertEqual(Network(3, ((0, 2), (0, 1))), Network(3, [(0, 2), (0, 1)]))

    def test_equal_networks(self):
        network = Network(3, [(0, 1), (1, 2)])
        self.assertTrue(network == Network(3, [(0, 1), (1, 2)]))
        self.assertFalse(network != Network(3, [(0, 1), (1, 2)]))
        for other in [Network(4, [(0, 1), (1, 2)]), Network(3, [(1, 2), (0, 1)]), Network(3, [(0, 1)]), Network(3),
                      Network(3, [(0, 1), (1, 2), (1, 2)]), Network(3, [(0, 1), (0, 2)])]:
            self.assertIs(network == other, False)
            self.assertIs(network != other, True)
        self.assertFalse(Network(1) == Network(2))
        for value in [list(network), tuple(network), str(network), 3, Order(3), Order(3, [(0, 1)]), *wrong_values()]:
            self.assertIs(network == value, False)
            self.assertIs(network != value, True)
        self.assertIs(Network(3) == Order(3), False)
        self.assertIs(Order(3) == Network(3), False)

    def test_a_network_copies_its_steps(self):
        steps = [(0, 1)]
        network = Network(3, steps)
        steps.append((1, 2))
        steps[0] = (0, 2)
        self.assertEqual((list(network), len(network), network("101")), ([(0, 1)], 1, "011"))
        self.assertEqual(network, Network(3, [(0, 1)]))

    def test_arguments_are_not_modified(self):
        steps, row = [(1, 2), (0, 1)], [3, 2, 1]
        network = Network(3, steps)
        network(row)
        network.trace(row)
        self.assertEqual((steps, row), ([(1, 2), (0, 1)], [3, 2, 1]))

    def test_told_lists_are_new(self):
        network = Network(2, [(0, 1)])
        network.trace("10").append("11")
        network.trace("10").clear()
        list(network).append((0, 1))
        self.assertEqual((network.trace("10"), list(network)), (["10", "01"], [(0, 1)]))

    def test_wrong_sizes(self):
        for value in [0, 61, -1, 10 ** 29, "3", [3], *wrong_values()]:
            with self.subTest(value=value):
                self.assert_raises("InvalidSize", value, Network, value)
                self.assert_raises("InvalidSize", value, Network, value, None)
                self.assert_raises("InvalidSize", value, Network, size=value, steps=[(0, 0)])

    def test_wrong_lists_of_steps(self):
        for value in [None, True, False, 0, 2, "", "01", "0-1", {}, {0: 1}, {"a": (0, 1)}, Order(3, [(0, 1)]),
                      Network(3, [(0, 1)]), Network(3)]:
            with self.subTest(value=value):
                self.assert_raises("InvalidSteps", value, Network, 3, value)
                self.assert_raises("InvalidSteps", value, Network, size=3, steps=value)

    def test_wrong_steps(self):
        for item in [0, 1, [0, 1], "01", "0-1", ("0", "1"), (0,), (0, 1, 2), (0, 0), (2, 2), (1, 0), (2, 1), (0, 3),
                     (3, 4), (-1, 0), (-2, -1), (True, 2), (0, True), (False, 1), (False, True), (0, None), (None, 1),
                     (0, [1]), (0, "1"), ((0, 1), 2), {0: 1}, *wrong_values()]:
            with self.subTest(item=item):
                self.assert_raises("InvalidStep", item, Network, 3, [item])
                self.assert_raises("InvalidStep", item, Network, 3, ((0, 1), item, None))
                self.assert_raises("InvalidStep", item, Network, 3, [(0, 1), (1, 2), item])
        self.assert_raises_equal("InvalidStep", (0, 1), Network, 1, [(0, 1)])
        self.assert_raises_equal("InvalidStep", (0, 60), Network, 60, [(0, 59), (0, 60)])

    def test_wrong_inputs(self):
        for network in [Network(3), Network(3, [(0, 1), (1, 2)]), mixed_network(7)]:
            for value in wrong_inputs(network.size):
                with self.subTest(value=value):
                    self.assert_raises("InvalidRow", value, network, value)
                    self.assert_raises("InvalidRow", value, network.trace, value)
                    self.assert_raises("InvalidRow", value, network.trace, value=value)

    def test_the_first_wrong_argument_is_told(self):
        self.assert_due(Network, {"size": 3, "steps": [(0, 1)]},
                        ("InvalidSize", {"size": [3]}), ("InvalidSteps", {"steps": {}}),
                        ("InvalidStep", {"steps": [(0, 1), (1, 1), [0, 1]]}, (1, 1)))

    def test_nothing_has_changed_behind_an_exception(self):
        steps = [(0, 1), (1, 0)]
        self.assert_raises_equal("InvalidStep", (1, 0), Network, 2, steps)
        network = Network(2, [(0, 1)])
        self.assert_raises_equal("InvalidRow", [1], network, [1])
        self.assertEqual((steps, network, network("10")), ([(0, 1), (1, 0)], Network(2, [(0, 1)]), "01"))


class Point22(ProgramTest):
    def test_one_behind_another(self):
        one, other = Network(3, [(0, 1), (1, 2)]), Network(3, [(0, 2), (0, 1)])
        self.assertEqual(list(one * other), [(0, 1), (1, 2), (0, 2), (0, 1)])
        self.assertEqual(list(other * one), [(0, 2), (0, 1), (0, 1), (1, 2)])
        self.assertEqual((one * Network(3), Network(3) * one, one * one), (one, one, Network(3, [*one, *one])))
        self.assertEqual((len(one), len(other), type(one * other)), (2, 2, Network))
        self.assertEqual(Network(1) * Network(1), Network(1))
        self.assertEqual(len(sorter(60) * sorter(60)), 2 * len(sorter(60)))

    def test_what_comes_out_of_one_behind_another(self):
        for one in networks(3, 2):
            for other in networks(3, 2):
                for word in all_words(3):
                    self.assertEqual((one * other)(word), other(one(word)))

    def test_one_behind_another_raises(self):
        network = Network(3, [(0, 1)])
        for value in wrong_networks():
            with self.subTest(value=value):
                self.assert_raises("NotNetwork", value, lambda: network * value)
        self.assert_raises_equal("UnlikeSizes", (3, 4), lambda: network * Network(4))
        self.assert_raises_equal("UnlikeSizes", (60, 1), lambda: Network(60) * Network(1))
        self.assert_raises_equal("UnlikeSizes", (1, 60), lambda: Network(1) * Network(60))
        self.assertEqual(network, Network(3, [(0, 1)]))

    def test_mirrored_networks(self):
        self.assertEqual(~Network(5, [(0, 1), (3, 4), (1, 4)]), Network(5, [(3, 4), (0, 1), (0, 3)]))
        self.assertEqual((~Network(1), ~Network(60)), (Network(1), Network(60)))
        for size in SIZES:
            network = mixed_network(size)
            self.assertEqual(list(~network), [(size - 1 - j, size - 1 - i) for i, j in network])
            self.assertEqual(~~network, network)
            self.assertEqual(network, mixed_network(size))

    def test_what_comes_out_of_mirrored_networks(self):
        for size, most in [(1, 0), (2, 2), (3, 3), (4, 1)]:
            for network in networks(size, most):
                for value in [*all_rows(size), *all_words(size)]:
                    self.assertEqual((~network)(mirrored(value)), mirrored(network(value)))
        for size in SIZES:
            for value in [*some_rows(size), *some_words(size)]:
                network = mixed_network(size)
                self.assertEqual((~network)(mirrored(value)), mirrored(network(value)))

    def test_one_beside_another(self):
        one, other = Network(3, [(0, 1), (1, 2)]), Network(2, [(0, 1), (0, 1)])
        self.assertEqual(one.beside(other), Network(5, [(0, 1), (1, 2), (3, 4), (3, 4)]))
        self.assertEqual(other.beside(one), Network(5, [(0, 1), (0, 1), (2, 3), (3, 4)]))
        self.assertEqual(Network(1).beside(other=Network(1)), Network(2))
        self.assertEqual(one.beside(one), Network(6, [(0, 1), (1, 2), (3, 4), (4, 5)]))
        self.assertEqual((one, other), (Network(3, [(0, 1), (1, 2)]), Network(2, [(0, 1), (0, 1)])))
        self.assertEqual(sorter(30).beside(sorter(30)).size, 60)
        self.assertEqual(Network(59).beside(Network(1)), Network(60))

    def test_what_comes_out_of_one_beside_another(self):
        for one in networks(3, 2):
            for other in networks(2, 2):
                for word in all_words(5):
                    self.assertEqual(one.beside(other)(word), one(word[:3]) + other(word[3:]))

    def test_one_beside_another_raises(self):
        network = Network(3, [(0, 1)])
        for value in wrong_networks():
            with self.subTest(value=value):
                self.assert_raises("NotNetwork", value, network.beside, value)
        self.assert_raises_equal("TooLarge", 61, network.beside, Network(58))
        self.assert_raises_equal("TooLarge", 61, Network(60).beside, Network(1))
        self.assert_raises_equal("TooLarge", 120, Network(60).beside, Network(60))
        self.assertEqual(network, Network(3, [(0, 1)]))


class Point23(ProgramTest):
    def test_on_lines(self):
        network = Network(3, [(0, 1), (1, 2), (0, 2)])
        self.assertEqual(network.on_lines(6, [1, 3, 5]), Network(6, [(1, 3), (3, 5), (1, 5)]))
        self.assertEqual(network.on_lines(lines=(0, 1, 2), size=3), network)
        self.assertEqual(Network(1).on_lines(60, [59]), Network(60))
        self.assertEqual(sorter(60).on_lines(60, list(range(60))), sorter(60))
        self.assertEqual(network, Network(3, [(0, 1), (1, 2), (0, 2)]))

    def test_all_other_lines_stay(self):
        network = Network(3, [(0, 1), (1, 2)])
        for lines in [(0, 1, 2), (0, 2, 4), (1, 3, 4), (2, 3, 4)]:
            moved = network.on_lines(5, list(lines))
            for word in all_words(5):
                came = moved(word)
                self.assertEqual("".join(came[line] for line in lines), network("".join(word[k] for k in lines)))
                for line in set(range(5)) - set(lines):
                    self.assertEqual(came[line], word[line])

    def test_on_lines_raises_for_wrong_sizes(self):
        network = Network(2, [(0, 1)])
        for value in [0, 61, -1, 10 ** 29, "3", [3], *wrong_values()]:
            with self.subTest(value=value):
                self.assert_raises("InvalidSize", value, network.on_lines, value, [0, 1])

    def test_on_lines_raises_for_wrong_lines(self):
        network = Network(2, [(0, 1)])
        for value in [0, 1, "01", [0], [0, 1, 2], [1, 0], [1, 1], [0, 3], [-1, 0], [-2, -1], [True, 2], [False, 1],
                      (0, True), [0, "1"], [0, None], [0, (1,)], {0: 0, 1: 1}, (2, 1), (0, 3), [0, 1] * 2,
                      Order(2, [(0, 1)]), Network(3, [(0, 1), (1, 2)]), *wrong_values()]:
            with self.subTest(value=value):
                self.assert_raises("InvalidLines", value, network.on_lines, 3, value)
        for network, size, lines in [(network, 1, [0, 1]), (network, 1, [0]), (Network(60), 59, list(range(60))),
                                     (Network(1), 60, [60]), (Network(1), 3, [])]:
            self.assert_raises("InvalidLines", lines, network.on_lines, size, lines)

    def test_the_first_wrong_argument_of_on_lines_is_told(self):
        self.assert_due(Network(2).on_lines, {"size": 3, "lines": [0, 1]},
                        ("InvalidSize", {"size": [3]}), ("InvalidLines", {"lines": [1, 0]}))

    def test_lines_are_not_modified(self):
        lines = [0, 2]
        moved = Network(2, [(0, 1)]).on_lines(3, lines)
        lines.append(3)
        self.assertEqual((lines, moved), ([0, 2, 3], Network(3, [(0, 2)])))

    def test_without_each_step(self):
        steps = [(0, 1), (1, 2), (0, 1), (0, 2)]
        network = Network(3, steps)
        for index in range(4):
            self.assertEqual(list(network.without(index)), steps[:index] + steps[index + 1:])
        self.assertEqual(network.without(index=3), Network(3, steps[:3]))
        self.assertEqual(list(network), steps)
        self.assertEqual(Network(2, [(0, 1)]).without(0), Network(2))
        self.assertEqual(list(sorter(60).without(1000)), list(sorter(60))[:1000] + list(sorter(60))[1001:])

    def test_without_raises(self):
        for value in [-1, -4, 4, 5, 10 ** 29, "0", [0], (0,), (0, 1), *wrong_values()]:
            with self.subTest(value=value):
                network = Network(3, [(0, 1), (1, 2), (0, 1), (0, 2)])
                self.assert_raises("NoStep", value, network.without, value)
                self.assertEqual(len(network), 4)
        self.assert_raises_equal("NoStep", 0, Network(3).without, 0)
        self.assert_raises_equal("NoStep", 1, Network(9, [(0, 1)]).without, 1)

    def test_sorters_of_small_sizes_sort_all_words(self):
        for size in range(1, 9):
            for word in all_words(size):
                self.assertEqual(sorter(size)(word), "".join(sorted(word)))
        for row in all_rows(4):
            self.assertEqual(sorter(4)(row), tuple(sorted(row)))

    def test_sorters_of_all_sizes(self):
        for size in range(1, 61):
            network = sorter(size)
            self.assertEqual(network.size, size)
            self.assertLessEqual(len(network), size * (size - 1) // 2)
            for row in some_rows(size):
                self.assertEqual(network(row), tuple(sorted(row)))
            for word in some_words(size):
                self.assertTrue(is_sorted(network(word)))
            self.assertEqual(network, sorter(size=size))

    def test_sorter_raises(self):
        for value in [0, 61, -1, 10 ** 29, "3", [3], *wrong_values()]:
            with self.subTest(value=value):
                self.assert_raises("InvalidSize", value, sorter, value)


class Point24(ProgramTest):
    def test_texts(self):
        for network, text in [
                (Network(3, [(0, 2), (0, 1)]), "3: 0-2 0-1"), (Network(1), "1:"), (Network(60), "60:"),
                (Network(60, [(0, 59), (9, 10), (58, 59)]), "60: 0-59 9-10 58-59"),
                (Network(11, [(0, 10)] * 3), "11: 0-10 0-10 0-10")]:
            self.assertEqual(str(network), text)
            self.assertEqual(f"{network}", text)
            self.assertEqual(Network.read(text), network)
            self.assertEqual(Network.read(text=text), network)
            self.assertIs(type(Network.read(text)), Network)

    def test_read_and_written_again(self):
        for size in range(1, 61):
            for network in [Network(size), mixed_network(size), sorter(size)]:
                self.assertEqual(Network.read(str(network)), network)
                self.assertEqual(str(Network.read(str(network))), str(network))
        for network in networks(3, 3):
            self.assertEqual(Network.read(str(network)), network)

    def test_other_values_are_no_texts(self):
        for value in [*wrong_values(), 0, 3, 10 ** 29, b"3:", ["3:"], ("3: 0-1",), Network(3, [(0, 1)])]:
            with self.subTest(value=value):
                self.assert_raises("InvalidText", value, Network.read, value)

    def test_other_strings_are_no_texts(self):
        for text in [
                "", " ", ":", "3", "3 :", "3: ", " 3:", "3:\n", "\n3:", "3 0-1", "3:0-1", "3:  0-1", "3: 0-1 ",
                "3: 0-1  1-2", "3: 0-1\n", "3:\n0-1", "3: 0-1\n1-2", "3: 0 -1", "3: 0- 1", "3: 0-1,1-2", "3: 01",
                "3: 0", "3: 0-", "3: -1", "3: -", "3: --", "3: 0--1", "3: -0-1", "3: 0-1-2", "3: +0-1", "3: 0-+1",
                "3: 1-0", "3: 0-0", "3: 2-1", "3: 0-3", "3: 3-4", "3: 00-1", "3: 0-01", "3: 0_0-1", "3: a-b",
                "3: (0, 1)", "03:", "+3:", "-3:", "3.0:", "0:", "0: 0-1", "61:", "99:", "100:", "060:", "1: 0-1",
                "1: 0-0", "60: 0-60", "60: 59-60", "60: 0-059", "3:: 0-1", "3:3: 0-1", "3: 0-1:", "3: 0-1 0",
                "x: 0-1", "3; 0-1", "3: 0-1 1-2 2-1", "3: 0:1", "3:\t0-1", "9" * 30 + ":", "3: 0-" + "1" * 30,
                "3: " + "0" * 1900 + "-1", "9" * 2000, "9" * 1999 + ":", "01", "0-1", "three:"]:
            with self.subTest(text=text):
                self.assert_raises("InvalidText", text, Network.read, text)

    def test_texts_with_one_sign_otherwise(self):
        signs = "0123456789: -+_.,a\n"
        for text in ["3: 0-2 0-1", "12: 9-11 0-10", "1:", "60: 0-59"]:
            for at in range(len(text) + 1):
                others = [text[:at] + sign + text[at + more:] for sign in signs for more in (0, 1)]
                for other in [*others, text[:at] + text[at + 1:]]:
                    self.check_text(other)

    def check_text(self, text):
        """Told in another way whether a string is a text: one whose network has it as its text."""
        head, *words = text.split(" ")
        plain = [word for word in words if word.count("-") == 1 and word.replace("-", "").isdigit()
                 and all(part.isdigit() for part in word.split("-"))]
        network = None
        if head[-1:] == ":" and head[:-1].isdigit() and 1 <= int(head[:-1]) <= 60 and plain == words:
            steps = [tuple(map(int, word.split("-"))) for word in words]
            if all(i < j < int(head[:-1]) for i, j in steps):
                network = Network(int(head[:-1]), steps)
        with self.subTest(text=text):
            if network is not None and str(network) == text:
                self.assertEqual(Network.read(text), network)
            else:
                self.assert_raises("InvalidText", text, Network.read, text)


if __name__ == "__main__":
    unittest.main()
