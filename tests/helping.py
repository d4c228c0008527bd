"""What the tests share."""

import itertools
import sys
import unittest

from enoughtests import errors
from enoughtests.networks import Network
from enoughtests.orders import Order


class ProgramTest(unittest.TestCase):
    """A test case that knows the exceptions of the program."""

    def assert_raises(self, name, value, call, /, *passed, **named):
        """A call raises exactly this exception, which keeps this very value."""
        error = self._raised(name, call, passed, named)
        self.assertIs(self._kept(error), value)

    def assert_raises_equal(self, name, value, call, /, *passed, **named):
        """A call raises exactly this exception, which keeps a value that equals this one."""
        error = self._raised(name, call, passed, named)
        kept = self._kept(error)
        self.assertEqual((type(kept), kept), (type(value), value))

    def assert_due(self, call, right, *wrongs):
        """Of several wrong arguments the one that stands first among these is told of, whatever the further ones are.

        Each of them is the name of the exception, the arguments that make it due and the value that it keeps; without
        the latter, the exception keeps the very argument.
        """
        for at, (name, changes, *kept) in enumerate(wrongs):
            for many in range(len(wrongs) - at):
                for others in itertools.combinations(wrongs[at + 1:], many):
                    named = dict(right)
                    for wrong in [*others, wrongs[at]]:
                        named.update(wrong[1])
                    with self.subTest(name, named=named):
                        if kept:
                            self.assert_raises_equal(name, *kept, call, **named)
                        else:
                            (value,) = changes.values()
                            self.assert_raises(name, value, call, **named)

    def check_lists(self, call, greatest=None, lists=("tests",), **named):
        """What a function with a size and lists of tests raises for them, for known, for first and for great sizes."""
        right = {"size": 3, **{key: [(1, 0, 2)] for key in lists}, **named}
        for value in wrong_sizes():
            self.assert_raises("InvalidSize", value, call, **{**right, "size": value})
        for key in lists:
            for value in wrong_lists():
                self.assert_raises("InvalidTests", value, call, **{**right, key: value})
            for item in wrong_tests(3):
                for tests in [[item], ((2, 1, 0), [0, 1, 2], item, None, (0,))]:
                    self.assert_raises("InvalidRow", item, call, **{**right, key: tests})
            for item in [(2, 1, 0), [9, 8, 7], (10 ** 29, 5, -5)]:
                for tests in [[item], ([0, 1, 2], (3, 4, 4 ** 9), item, (7, 6, 5))]:
                    self.assert_raises("NotFitting", item, call, **{**right, key: tests, "known": Order(3, [(0, 2)])})
        for value in wrong_orders():
            self.assert_raises("NotOrder", value, call, **right, known=value)
        self.assert_raises_equal("UnlikeSizes", (3, 4), call, **right, known=Order(4))
        for value in wrong_firsts(3):
            self.assert_raises("InvalidFirst", value, call, **right, first=value)
        for size in [] if greatest is None else [greatest + 1, greatest + 2, 60]:
            for known in [None, Order(size), Order(size, [(line, line + 1) for line in range(size - 1)])]:
                large = {**right, "size": size, **{key: [] for key in lists}}
                self.assert_raises_equal("TooLarge", size, call, **large, known=known, first=1)
        self._check_order_of_lists(call, greatest, lists, named)

    def _check_order_of_lists(self, call, greatest, lists, named):
        size = 60 if greatest is None else greatest + 1
        order = Order(size, [(0, 1)])
        up, down = tuple(range(size)), list(range(size, 0, -1))
        wrongs = [("InvalidSize", {"size": [3]})]
        for key in lists:
            wrongs += [("InvalidTests", {key: {"a": 1}}), ("InvalidRow", {key: [up, up[1:], None]}, up[1:])]
        wrongs += [("NotOrder", {"known": [3]}), ("UnlikeSizes", {"known": Order(3)}, (size, 3)),
                   ("InvalidFirst", {"first": [1]})]
        wrongs += [("NotFitting", {key: [up, down], "known": order}, down) for key in lists]
        if greatest is not None:
            wrongs.append(("TooLarge", {}, size))
        right = {"size": size, **{key: [up] for key in lists}, **named, "known": order, "first": size}
        self.assert_due(call, right, *wrongs)

    def _raised(self, name, call, passed, named):
        with self.assertRaises(errors.SorterError) as caught:
            call(*passed, **named)
        self.assertIs(type(caught.exception), getattr(errors, name))
        return caught.exception

    def _kept(self, error):
        (kept,) = vars(error).values()
        return kept


def wrong_values():
    """Values of all kinds that may be passed, none of which is an integer, a word, a row or a pair of lines."""
    return [
        None, True, False, "", " ", "a", "2", "012", "0 1", "01\n", "-1", "00" * 500, "0" * 61,
        [], (), {}, {"a": 1}, {0: 1}, [None], [True], (False,), ["0"], ("1",), [0, "1"], (0, None), [[0]],
        ((0, 1),), [[0], [1]], {"0": [1]}, [{}], (0, (1,)), [0] * 61, tuple(range(61)),
        Order(2), Order(3, [(0, 1)]), [Order(1)], Network(2), Network(3, [(0, 1)]), [Network(1)],
    ]


def wrong_networks():
    """Values of all kinds that are no networks."""
    values = [0, 3, "3:", "3: 0-1", "01", [(0, 1)], ((0, 1),), (3, ()), (3, [(0, 1)]), *wrong_values()]
    return [value for value in values if not isinstance(value, Network)]


def wrong_orders():
    """Values of all kinds, other than None, that are no orders."""
    values = [0, 3, "01", [(0, 1)], ((0, 1),), (3, ()), *wrong_values()]
    return [value for value in values if value is not None and not isinstance(value, Order)]


def wrong_firsts(size):
    """Values of all kinds, other than None, that are no integers from 1 to a size."""
    values = [0, -1, size + 1, 61, 10 ** 29, "1", [1], (1,), *wrong_values()]
    return [value for value in values if value is not None]


def wrong_sizes():
    """Values of all kinds that are no sizes."""
    return [0, 61, -1, 10 ** 29, "3", [3], (3,), *wrong_values()]


def wrong_lists():
    """Values of all kinds that are no lists."""
    return [value for value in [0, 3, *wrong_values()] if not isinstance(value, (list, tuple))]


def wrong_tests(size):
    """Values of all kinds that are no tests of a size, which is at least 2."""
    items = list(range(size))
    near = [items[1:], (*items, size), [*items[:-1], 0], (1,) * size, [*items[:-1], True], (False, *items[1:]),
            [*items[:-1], str(size)], (*items[:-1], None), [items] * size, "01", "0" * size, items[-1]]
    return [*near, *wrong_values()]


def wrong_lines(size):
    """Values of all kinds that are no integers from 0 to a size minus 1."""
    return [-1, size, size + 1, 60, -size, 10 ** 29, "0", [0], (0,), *wrong_values()]


def count_events(call):
    """How many calls are made while a call runs, those of builtin functions included."""
    events = []
    sys.setprofile(lambda frame, event, told: events.append(event))
    try:
        call()
    finally:
        sys.setprofile(None)
    return len(events)


def all_pairs(size):
    return list(itertools.permutations(range(size), 2))


def some_pairs(size, most):
    """All lists of at most so many different pairs of a size."""
    for many in range(most + 1):
        yield from itertools.combinations(all_pairs(size), many)


def reached(pairs):
    """All pairs that follow, those of a line with itself included, found in the plainest way."""
    found = set(pairs)
    while True:
        more = {(a, d) for a, b in found for c, d in found if b == c} - found
        if not more:
            return sorted(found)
        found |= more


def orders(size, most):
    """All orders of a size that come of at most so many pairs."""
    seen = {tuple(reached(pairs)) for pairs in some_pairs(size, most)}
    return [Order(size, pairs) for pairs in sorted(seen) if all(a != b for a, b in pairs)]


def all_words(size):
    return ["".join(letters) for letters in itertools.product("01", repeat=size)]


def fitting(values, order):
    return [value for value in values if all(value[a] <= value[b] for a, b in order.pairs)]


def all_rows(size):
    """All rows of a size whose items, which may be equal, are from 0 to the size minus 1."""
    return list(itertools.product(range(size), repeat=size))


def plain_rows(size):
    """All rows of a size with the integers from 0 to the size minus 1 as their items, in ascending order."""
    return list(itertools.permutations(range(size)))


def all_steps(size):
    return list(itertools.combinations(range(size), 2))


def networks(size, most):
    """All networks of a size with at most so many steps."""
    return [Network(size, list(steps)) for many in range(most + 1)
            for steps in itertools.product(all_steps(size), repeat=many)]


def mixed_network(size):
    """A network of a size whose steps go hither and thither."""
    return Network(size, sorted(all_steps(size), key=lambda step: (step[0] * 5 + step[1] * 3) % 7))


def made(steps, items):
    """The items behind some steps, made in the plainest way."""
    items = list(items)
    for i, j in steps:
        items[i], items[j] = min(items[i], items[j]), max(items[i], items[j])
    return items


def cases():
    """Networks of small sizes, each one with known orders."""
    longer = [[(0, 1), (2, 3), (0, 2), (1, 3)], [(0, 1), (2, 3), (0, 2), (1, 3), (1, 2)], [(0, 3), (1, 2), (0, 1)],
              [(2, 3), (2, 3), (1, 2), (0, 1), (0, 3)], [(1, 3), (0, 2), (0, 1), (2, 3)]]
    found = [(Network(1), Order(1))]
    found += itertools.product(networks(2, 2), orders(2, 2))
    found += itertools.product(networks(3, 3), orders(3, 6))
    found += itertools.product([*networks(4, 1), *[Network(4, steps) for steps in longer]], orders(4, 12)[::11])
    return found


def plain_words(row):
    """The words of a row, made in the plainest way."""
    return ["".join("1" if item >= level else "0" for item in row) for level in sorted(set(row))[1:]]


def plain_needed(order, first):
    """The needed words, found in the plainest way."""
    most = order.size if first is None else first
    return [word for word in fitting(all_words(order.size), order)
            if list(word) != sorted(word) and word.count("0") <= most]


def plain_uncovered(order, tests, first):
    """The needed words that are no words of the tests, found in the plainest way."""
    words = [word for test in tests for word in plain_words(test)]
    return [word for word in plain_needed(order, first) if word not in words]


def stretched(row):
    """A row, as a list, with great items in the same order."""
    return [item * 10 ** 28 - 3 * 10 ** 28 for item in row]


def lists_of_tests(order):
    """Lists of tests that fit: no test and all tests, some in another order, some twice, as lists, with great items."""
    rows = fitting(plain_rows(order.size), order)
    return [[], rows[-1:], tuple(rows[::2]), rows, rows[::-1][1::2], [*rows[1:3], *rows[1:2]],
            [stretched(row) for row in rows[1::3]], [list(rows[-1]), *rows[-2:], stretched(rows[-1]), rows[0]]]


def known_orders():
    """All orders of sizes up to 3 and some of size 4."""
    return [Order(1), *orders(2, 2), *orders(3, 6), *orders(4, 12)[::17]]


def all_firsts(size):
    """All values that first may have."""
    return [None, *range(1, size + 1)]


def named(order, first):
    """The order and first as named arguments, which are left out where nothing is known and first is None."""
    told = {} if first is None else {"first": first}
    return told if len(order) == 0 and first is None else {**told, "known": order}


def listed_cases():
    """Known orders with all values of first and with lists of tests."""
    for order in known_orders():
        for first in all_firsts(order.size):
            for tests in lists_of_tests(order):
                yield order, first, tests
