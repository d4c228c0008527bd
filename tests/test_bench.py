import itertools
import random
import unittest

from enoughtests.bench import Bench
from enoughtests.networks import Network, sorter
from enoughtests.orders import Order, chains

from helping import ProgramTest, all_firsts, all_rows, fitting, lists_of_tests, made, plain_rows, reached
from helping import wrong_firsts, wrong_sizes, wrong_tests, wrong_values

NAMES = ["a", "b", "cd", "zzzzzzzz", "none"]


def wrong_names():
    """Values of all kinds that are no names."""
    return [0, 3, "A", "aB", "a1", "a b", "a_", "-", " a", "a ", "a\n", "abcdefghi", "z" * 9, "a" * 2000, "{", "`",
            ["a"], ("a",), {"a": "a"}, *[value for value in wrong_values() if value != "a"]]


class Stop(Exception):
    """What ends a block in these tests."""


class Model:
    """What a bench does, told in the plainest way: all that it has is copied ahead of each deed."""

    def __init__(self):
        self.things = {}
        self.past = []

    def deed(self, name, thing):
        self.past.append(dict(self.things))
        self.things[name] = thing

    def put(self, name, thing):
        self.deed(name, thing)

    def add(self, name, item):
        kind, items = self.things[name]
        items = (*items, tuple(item))
        self.deed(name, (kind, tuple(reached(items)) if kind == "order" else items))

    def drop(self, name):
        self.deed(name, None)
        del self.things[name]

    def rename(self, name, other):
        self.deed(other, self.things[name])
        del self.things[name]

    def undo(self):
        self.things = dict(self.past.pop())

    def kept(self):
        return dict(self.things), list(self.past)

    def give_back(self, kept):
        self.things, self.past = kept


class History:
    """Makes the same deeds on a bench and on a model, and compares the two."""

    def __init__(self, test, seed, size):
        self.test = test
        self.random = random.Random(seed)
        self.bench = Bench(size)
        self.model = Model()

    def compare(self):
        test, bench, things = self.test, self.bench, self.model.things
        test.assertEqual((len(bench), bench.names(), bench.deeds), (len(things), sorted(things), len(self.model.past)))
        for name in NAMES:
            test.assertIs(name in bench, name in things)
        for name, (kind, items) in things.items():
            test.assertEqual(bench.kind(name), kind)
            thing = bench[name]
            test.assertIs(type(thing), {"network": Network, "order": Order, "tests": list}[kind])
            test.assertEqual(tuple(thing), items)

    def make(self, deed, *passed):
        """Makes a deed on both; on the bench with lists, which are changed behind it."""
        given = [list(part) if isinstance(part, tuple) and deed == "add" and len(part) == self.bench.size else part
                 for part in passed]
        self.test.assertIsNone(getattr(self.bench, deed)(*given))
        getattr(self.model, deed)(*passed)
        for part in given:
            if isinstance(part, list):
                part.append(0)

    def put(self, name, kind, items):
        if kind == "tests":
            thing = [list(row) for row in items]
        else:
            thing = (Network if kind == "network" else Order)(self.bench.size, list(items))
        self.test.assertIsNone(self.bench.put(name, thing))
        self.model.put(name, (kind, tuple(items)))
        if kind == "tests":
            thing.append((0,))
            thing[0].append(0)

    def go_on(self, steps, depth):
        for _ in range(steps):
            self.one_deed(depth)
            self.compare()

    def one_deed(self, depth):
        taken = sorted(self.model.things)
        free = [name for name in NAMES if name not in taken]
        choice = self.random.randrange(10)
        if choice < 3 and free:
            kind = self.random.choice(["network", "order", "tests"])
            self.put(self.random.choice(free), kind, self.some_items(kind))
        elif choice < 6 and taken:
            name = self.random.choice(taken)
            kind, items = self.model.things[name]
            item = self.some_item(kind, items)
            if item is not None:
                self.make("add", name, item)
        elif choice == 6 and taken:
            self.make("drop", self.random.choice(taken))
        elif choice == 7 and taken and free:
            self.make("rename", self.random.choice(taken), self.random.choice(free))
        elif choice == 8 and depth < 3:
            self.one_trial(depth + 1)
        elif self.model.past:
            self.make("undo")

    def some_item(self, kind, items):
        size = self.bench.size
        if kind == "tests":
            return tuple(self.random.sample(range(-9, 9), size))
        if kind == "network":
            return tuple(sorted(self.random.sample(range(size), 2)))
        right = [pair for pair in itertools.permutations(range(size), 2)
                 if all(a != b for a, b in reached([*items, pair]))]
        return self.random.choice(right) if right else None

    def some_items(self, kind):
        items = []
        for _ in range(self.random.randrange(1, 4)):
            items.append(self.some_item(kind, items))
        return reached(items) if kind == "order" else items

    def one_trial(self, depth):
        kept = self.model.kept()
        way = self.random.randrange(3)
        if way == 0:
            with self.bench.trial():
                self.go_on(12, depth)
        elif way == 1:
            with self.test.assertRaises(Stop), self.bench.trial():
                self.go_on(8, depth)
                raise Stop
        else:
            told = self.bench.tried(lambda bench: (bench, self.go_on(9, depth)))
            self.test.assertIs(told[0], self.bench)
        self.model.give_back(kept)


class Examples(unittest.TestCase):
    def test_examples_of_the_interface(self):
        bench = Bench(3)
        bench.put("net", Network(3, [(0, 2)]))
        bench.put("few", [(2, 1, 0)])
        bench.add("net", (0, 1))
        self.assertEqual(
            [bench.passed("net", "few"), bench.right("net"), bench.enough("few"), bench.refuted("few"), bench.deeds,
             len(bench["net"])],
            [True, False, False, ["net"], 3, 2])
        bench.undo()
        self.assertEqual([len(bench["net"]), bench.kind("few"), bench.names()], [1, "tests", ["few", "net"]])


class BenchTest(ProgramTest):
    def filled(self, size=3):
        """A bench with a thing of each kind."""
        bench = Bench(size)
        bench.put("net", Network(size, [(0, 1)]))
        bench.put("know", Order(size, [(0, 1)]))
        bench.put("few", [tuple(range(size)), list(range(size, 0, -1))])
        return bench

    def state(self, bench):
        things = {name: (bench.kind(name), bench[name]) for name in bench.names()}
        return len(bench), things, bench.deeds

    def assert_nothing_changes(self, bench, name, value, call, *passed):
        """A method raises this exception with this very value, and the bench stays as it was."""
        ahead = self.state(bench)
        self.assert_raises(name, value, call, *passed)
        self.assertEqual(self.state(bench), ahead)


class Histories(BenchTest):
    def test_histories_of_deeds(self):
        for seed in range(60):
            history = History(self, seed, 3 + seed % 3)
            history.go_on(60, 0)

    def test_all_deeds_are_taken_back(self):
        for seed in range(20):
            history = History(self, seed, 4)
            history.go_on(40, 1)
            while history.model.past:
                history.make("undo")
                history.compare()
            with self.assertRaises(ValueError):
                history.bench.undo()


class Point48(BenchTest):
    def test_an_empty_bench(self):
        for size in [1, 2, 60]:
            bench = Bench(size=size)
            self.assertEqual((bench.size, bench.deeds, len(bench), bench.names()), (size, 0, 0, []))
            self.assertIs("a" in bench, False)

    def test_things_and_names(self):
        bench = self.filled()
        self.assertEqual((bench.size, bench.deeds, len(bench), bench.names()), (3, 3, 3, ["few", "know", "net"]))
        self.assertEqual([bench.kind(name=name) for name in bench.names()], ["tests", "order", "network"])
        self.assertEqual((bench["net"], bench["know"]), (Network(3, [(0, 1)]), Order(3, [(0, 1)])))
        self.assertEqual(bench["few"], [(0, 1, 2), (3, 2, 1)])
        self.assertIs(type(bench["few"]), list)
        self.assertEqual([type(row) for row in bench["few"]], [tuple, tuple])

    def test_names_are_in_ascending_order(self):
        bench = Bench(1)
        for name in ["b", "zz", "a", "aa", "z", "ab", "abcdefgh"]:
            bench.put(name, [])
        self.assertEqual(bench.names(), ["a", "aa", "ab", "abcdefgh", "b", "z", "zz"])

    def test_told_lists_are_new(self):
        bench = self.filled()
        bench.names().clear()
        bench["few"].clear()
        bench["few"].append((2, 1, 0))
        self.assertEqual((bench.names(), bench["few"]), (["few", "know", "net"], [(0, 1, 2), (3, 2, 1)]))

    def test_other_values_are_no_names_of_things(self):
        bench = self.filled()
        bench.put("gone", [])
        bench.drop("gone")
        for value in ["gone", "ne", "nett", "NET", "few ", 0, 1, bench, ["net"], ("net",), *wrong_names()]:
            with self.subTest(value=value):
                self.assertIs(value in bench, False)
                self.assert_nothing_changes(bench, "UnknownName", value, bench.kind, value)
                self.assert_nothing_changes(bench, "UnknownName", value, lambda name: bench[name], value)
        self.assertEqual([name in bench for name in ("net", "know", "few")], [True, True, True])

    def test_wrong_sizes(self):
        for value in wrong_sizes():
            self.assert_raises("InvalidSize", value, Bench, value)


class Point49(BenchTest):
    def test_deeds_return_nothing_and_are_counted(self):
        bench = Bench(3)
        deeds = [lambda: bench.put(name="net", thing=Network(3)), lambda: bench.put("know", Order(3)),
                 lambda: bench.put("few", ([0, 1, 2],)), lambda: bench.add(name="net", item=(0, 2)),
                 lambda: bench.add("know", (2, 0)), lambda: bench.add("few", [9, 7, 8]),
                 lambda: bench.rename(name="net", other="other"), lambda: bench.drop(name="few"),
                 lambda: bench.put("few", [])]
        for at, deed in enumerate(deeds):
            self.assertIsNone(deed())
            self.assertEqual(bench.deeds, at + 1)
        for at in range(len(deeds), 0, -1):
            self.assertEqual(bench.deeds, at)
            self.assertIsNone(bench.undo())
        self.assertEqual((bench.deeds, len(bench), bench.names()), (0, 0, []))

    def test_a_deed_counts_where_a_thing_stays_as_it_was(self):
        bench = self.filled()
        bench.add("know", (0, 1))
        self.assertEqual((bench.deeds, bench["know"]), (4, Order(3, [(0, 1)])))
        bench.undo()
        self.assertEqual((bench.deeds, bench["know"]), (3, Order(3, [(0, 1)])))
        bench.undo()
        self.assertEqual((bench.deeds, bench.names()), (2, ["know", "net"]))

    def test_what_was_handed_in_may_change_later(self):
        bench = Bench(3)
        row, item = [2, 1, 0], [0, 2, 1]
        tests = [row, (0, 1, 2)]
        bench.put("few", tests)
        bench.add("few", item)
        tests.append((1, 0, 2))
        row[0] = 0
        item.clear()
        self.assertEqual(bench["few"], [(2, 1, 0), (0, 1, 2), (0, 2, 1)])
        self.assertEqual((tests, row, item), ([row, (0, 1, 2), (1, 0, 2)], [0, 1, 0], []))

    def test_put_keeps_great_lists(self):
        rows = [tuple((item + by) % 60 for item in range(60)) for by in range(50)]
        bench = Bench(60)
        bench.put("great", rows * 2)
        self.assertEqual(bench["great"], rows * 2)
        self.assert_raises_equal("TooLarge", 101, bench.add, "great", rows[0])
        longer = rows * 2 + rows[:1]
        self.assert_raises("InvalidThing", longer, bench.put, "more", longer)
        bench.put("few", longer[2:])
        bench.add("few", rows[7])
        self.assertEqual(len(bench["few"]), 100)
        self.assert_raises_equal("TooLarge", 101, bench.add, "few", rows[0])
        bench.put("net", Network(60, [(0, 1)] * 1999))
        bench.add("net", (58, 59))
        self.assertEqual((len(bench["net"]), list(bench["net"])[-1]), (2000, (58, 59)))

    def test_put_raises(self):
        bench = self.filled()
        for value in wrong_names():
            self.assert_nothing_changes(bench, "InvalidName", value, bench.put, value, [])
            self.assert_nothing_changes(bench, "InvalidName", value, bench.put, value, None)
        for value in ["net", "know", "few"]:
            self.assert_nothing_changes(bench, "NameTaken", value, bench.put, value, [])
            self.assert_nothing_changes(bench, "NameTaken", value, bench.put, value, None)
        things = [None, 0, 3, "01", "3:", {}, {"a": 1}, Order(2), Order(4), Network(2), Network(60), bench, Bench(3),
                  [(0, 1, 2)] * 101, [Network(3)], [[]], [(0, 1, 2), None], "abc"]
        for value in [*things, *[[item] for item in wrong_tests(3)], *[((0, 1, 2), item) for item in wrong_tests(3)]]:
            with self.subTest(value=value):
                self.assert_nothing_changes(bench, "InvalidThing", value, bench.put, "new", value)

    def test_add_raises(self):
        bench = self.filled()
        for value in ["gone", *wrong_names()]:
            self.assert_nothing_changes(bench, "UnknownName", value, bench.add, value, (0, 1))
            self.assert_nothing_changes(bench, "UnknownName", value, bench.add, value, None)
        for item in [(1, 0), (0, 0), (0, 3), [0, 1], (0, 1, 2), (True, 2), (0, True), "0-1", 0, (-1, 1),
                     *wrong_values()]:
            self.assert_nothing_changes(bench, "InvalidStep", item, bench.add, "net", item)
        for item in [(0, 0), (0, 3), [0, 1], (0, 1, 2), (True, 2), (0, True), "0-1", 0, (-1, 1), *wrong_values()]:
            self.assert_nothing_changes(bench, "InvalidPair", item, bench.add, "know", item)
        for item in wrong_tests(3):
            self.assert_nothing_changes(bench, "InvalidRow", item, bench.add, "few", item)

    def test_add_raises_for_rings_and_long_lists(self):
        bench = Bench(5)
        bench.put("know", Order(5, [(3, 1), (1, 4)]))
        for item, lines in [((4, 1), [1, 4]), ((4, 3), [1, 3, 4]), ((1, 3), [1, 3])]:
            ahead = self.state(bench)
            self.assert_raises_equal("Ring", lines, bench.add, "know", item)
            self.assertEqual(self.state(bench), ahead)
        bench.add("know", (4, 0))
        self.assertEqual(bench["know"].pairs, ((1, 0), (1, 4), (3, 0), (3, 1), (3, 4), (4, 0)))
        bench.put("many", [tuple(range(5))] * 100)
        ahead = self.state(bench)
        self.assert_raises_equal("TooLarge", 101, bench.add, "many", tuple(range(5)))
        self.assert_raises("InvalidRow", None, bench.add, "many", None)
        self.assertEqual(self.state(bench), ahead)

    def test_drop_raises(self):
        bench = self.filled()
        for value in ["gone", *wrong_names()]:
            self.assert_nothing_changes(bench, "UnknownName", value, bench.drop, value)
        bench.drop("net")
        self.assert_nothing_changes(bench, "UnknownName", "net", bench.drop, "net")

    def test_rename_raises(self):
        bench = self.filled()
        for value in ["gone", *wrong_names()]:
            for other in ["new", "net", None]:
                self.assert_nothing_changes(bench, "UnknownName", value, bench.rename, value, other)
        for value in wrong_names():
            self.assert_nothing_changes(bench, "InvalidName", value, bench.rename, "net", value)
        for value in ["net", "know", "few"]:
            self.assert_nothing_changes(bench, "NameTaken", value, bench.rename, "net", value)

    def test_undo_raises(self):
        bench = Bench(3)
        bench.put("a", [])
        bench.undo()
        for _ in range(2):
            with self.assertRaises(ValueError) as caught:
                bench.undo()
            self.assertEqual((type(caught.exception).__name__, vars(caught.exception)), ("NothingToUndo", {}))
            self.assertEqual(self.state(bench), (0, {}, 0))

    def test_many_deeds(self):
        bench = Bench(2)
        bench.put("net", Network(2))
        for many in range(1, 1500):
            bench.add("net", (0, 1))
            bench.rename("net", "other")
            bench.rename("other", "net")
        self.assertEqual((len(bench["net"]), bench.deeds), (1499, 4498))
        for _ in range(4497):
            bench.undo()
        self.assertEqual((len(bench["net"]), bench.deeds), (0, 1))


class Point50(BenchTest):
    def test_a_block_begins_when_it_is_entered(self):
        bench = self.filled()
        trial = bench.trial()
        bench.put("more", [])
        with trial:
            bench.drop("more")
            bench.drop("net")
        self.assertEqual((bench.names(), bench.deeds), (["few", "know", "more", "net"], 4))

    def test_undo_takes_back_deeds_from_ahead_of_the_block(self):
        bench = self.filled()
        ahead = self.state(bench)
        with bench.trial():
            for left in [2, 1, 0]:
                bench.undo()
                self.assertEqual((bench.deeds, len(bench)), (left, left))
            with self.assertRaises(ValueError):
                bench.undo()
            bench.put("net", [])
        self.assertEqual(self.state(bench), ahead)
        bench.undo()
        self.assertEqual((bench.names(), bench.deeds), (["know", "net"], 2))

    def test_blocks_that_are_nested(self):
        bench = self.filled()
        outer = self.state(bench)
        with bench.trial():
            bench.add("net", (1, 2))
            inner = self.state(bench)
            for _ in range(2):
                with bench.trial():
                    bench.undo()
                    bench.undo()
                    bench.put("x", [])
                self.assertEqual(self.state(bench), inner)
            bench.drop("net")
        self.assertEqual(self.state(bench), outer)

    def test_an_exception_goes_on(self):
        bench = self.filled()
        ahead = self.state(bench)
        stop = Stop()
        with self.assertRaises(Stop) as caught, bench.trial():
            bench.drop("net")
            raise stop
        self.assertIs(caught.exception, stop)
        self.assertEqual(self.state(bench), ahead)
        with self.assertRaises(ValueError), bench.trial():
            bench.drop("net")
            bench.drop("net")
        self.assertEqual(self.state(bench), ahead)

    def test_tried(self):
        bench = self.filled()
        ahead = self.state(bench)

        def act(given):
            self.assertIs(given, bench)
            given.drop("net")
            given.add("few", (5, 6, 7))
            return given["few"]

        self.assertEqual(bench.tried(act), [(0, 1, 2), (3, 2, 1), (5, 6, 7)])
        self.assertEqual(bench.tried(act=lambda given: None), None)
        inner = lambda given: [given.drop("few"), len(given)]
        self.assertEqual(bench.tried(lambda given: [given.tried(inner), len(given)]), [[None, 2], 3])
        self.assertEqual(self.state(bench), ahead)
        with self.assertRaises(Stop):
            bench.tried(self.stopping)
        self.assertEqual(self.state(bench), ahead)

    def stopping(self, bench):
        bench.drop("net")
        raise Stop

    def test_several_objects(self):
        bench = self.filled()
        first, second = bench.trial(), bench.trial()
        with second:
            bench.drop("net")
            with first:
                bench.drop("know")
            self.assertEqual(bench.names(), ["few", "know"])
        self.assertEqual(bench.names(), ["few", "know", "net"])

    def test_things_that_were_told_stay(self):
        bench = self.filled()
        with bench.trial():
            bench.add("few", (7, 8, 9))
            told = bench["few"]
        self.assertEqual((told[-1], len(bench["few"])), ((7, 8, 9), 2))


class Point51(BenchTest):
    def asked(self, size, order):
        """A bench with some networks, an order, no order and some lists of tests that fit."""
        bench = Bench(size)
        some = {"a": Network(size), "b": sorter(size), "c": sorter(size).without(0), "d": ~sorter(size),
                "e": Network(size, [(0, line) for line in range(1, size)]), "f": Network(size, [(size - 2, size - 1)])}
        for name, network in some.items():
            bench.put(name, network)
        bench.put("know", order)
        bench.put("nil", Order(size))
        for at, tests in enumerate(lists_of_tests(order)):
            bench.put("tests" + "abcdefgh"[at], tests)
        return bench, some

    def works(self, network, rows, first):
        most = network.size if first is None else first
        return all(made(network, row)[:most] == sorted(row)[:most] for row in rows)

    def test_all_that_is_asked_of_small_sizes(self):
        for order in [Order(2), Order(3), Order(3, [(0, 1)]), Order(3, [(2, 0), (2, 1)]), chains([2, 2])]:
            bench, some = self.asked(order.size, order)
            ahead = self.state(bench)
            rows = fitting(all_rows(order.size), order)
            for first in all_firsts(order.size):
                told = {} if first is None else {"first": first}
                right = {name: self.works(network, rows, first) for name, network in some.items()}
                for name in some:
                    self.assertIs(bench.right(name, "know", **told), right[name])
                for tests in [name for name in bench.names() if name.startswith("tests")]:
                    passing = [name for name in some if self.works(some[name], bench[tests], first)]
                    for name in some:
                        self.assertIs(bench.passed(name, tests, **told), name in passing)
                    refuted = [name for name in passing if not right[name]]
                    self.assertEqual(bench.refuted(tests, "know", **told), refuted)
                    self.check_enough(bench, order, tests, first, told)
            self.assertEqual(self.state(bench), ahead)

    def check_enough(self, bench, order, tests, first, told):
        words = {"".join("1" if item >= level else "0" for item in row)
                 for row in bench[tests] for level in sorted(row)[1:]}
        most = order.size if first is None else first
        needed = {"".join("1" if item else "0" for item in row)
                  for row in fitting(itertools.product((0, 1), repeat=order.size), order)
                  if list(row) != sorted(row) and row.count(0) <= most}
        self.assertIs(bench.enough(tests, "know", **told), needed <= words)

    def test_where_order_is_none_nothing_is_known(self):
        bench = Bench(3)
        bench.put("net", Network(3, [(0, 2), (0, 1)]))
        bench.put("know", Order(3, [(1, 2)]))
        bench.put("nil", Order(3))
        bench.put("few", [(1, 0, 2)])
        bench.put("all", plain_rows(3))
        self.assertEqual([bench.right("net", order) for order in (None, "know", "nil")], [False, True, False])
        self.assertEqual([bench.enough("few", order, first=1) for order in (None, "nil")], [False, False])
        self.assertEqual([bench.refuted("few", order) for order in (None, "know", "nil")], [["net"], [], ["net"]])
        self.assertEqual([bench.enough("all"), bench.enough("all", None), bench.enough("all", "nil")], [True] * 3)
        self.assertEqual((bench.right("net"), bench.right("net", first=1)), (False, True))

    def test_arguments_by_name(self):
        bench = self.filled()
        self.assertIs(bench.right(first=1, order="know", network="net"), False)
        self.assertIs(bench.enough(first=1, order=None, tests="few"), False)
        self.assertIs(bench.passed(first=1, tests="few", network="net"), False)
        bench.drop("few")
        bench.put("few", [(0, 1, 2)])
        self.assertEqual(bench.refuted(first=1, order="know", tests="few"), ["net"])
        for call, passed in [(bench.right, ("net", "know", 1)), (bench.enough, ("few", "know", 1)),
                             (bench.passed, ("net", "few", 1)), (bench.refuted, ("few", "know", 1))]:
            with self.assertRaises(TypeError):
                call(*passed)

    def test_refuted_names_are_in_ascending_order_and_new(self):
        bench = Bench(2)
        for name in ["c", "ab", "zz", "a"]:
            bench.put(name, Network(2))
        bench.put("b", sorter(2))
        bench.put("few", [])
        bench.refuted("few").clear()
        self.assertEqual(bench.refuted("few"), ["a", "ab", "c", "zz"])

    def test_unknown_names_and_names_of_other_kinds(self):
        bench = self.filled()
        calls = [(bench.right, {"network": "net", "order": "know"}), (bench.enough, {"tests": "few", "order": "know"}),
                 (bench.passed, {"network": "net", "tests": "few"}), (bench.refuted, {"tests": "few", "order": "know"})]
        kinds = {"network": ["know", "few"], "tests": ["net", "know"], "order": ["net", "few"]}
        for call, given in calls:
            for key in given:
                for value in ["gone", *wrong_names()]:
                    if not (key == "order" and value is None):
                        self.assert_raises("UnknownName", value, call, **{**given, key: value})
                for value in kinds[key]:
                    self.assert_raises("WrongKind", value, call, **{**given, key: value})

    def test_the_first_wrong_argument_is_told(self):
        bench = self.filled(11)
        calls = [(bench.right, {"network": "net", "order": "know"}), (bench.enough, {"tests": "few", "order": "know"}),
                 (bench.passed, {"network": "net", "tests": "few"}), (bench.refuted, {"tests": "few", "order": "know"})]
        bench.put("tidy", [tuple(range(11))])
        wrong_kinds = {"network": "few", "tests": "know", "order": "net"}
        for call, given in calls:
            right = {**given, "first": 11}
            wrongs = []
            for key in given:
                wrongs += [("UnknownName", {key: "gone"}), ("WrongKind", {key: wrong_kinds[key]})]
            wrongs.append(("InvalidFirst", {"first": 12}))
            if "tests" in given and "order" in given:
                right["tests"] = "tidy"
                wrongs.append(("NotFitting", {"tests": "few", "order": "know"}, tuple(range(11, 0, -1))))
            if call != bench.passed:
                wrongs.append(("TooLarge", {}, 11))
            self.assert_due(call, right, *wrongs)

    def test_wrong_firsts(self):
        bench = self.filled()
        for value in wrong_firsts(3):
            for call, passed in [(bench.right, ("net", "know")), (bench.enough, ("few", "know")),
                                 (bench.passed, ("net", "few")), (bench.refuted, ("few", "know"))]:
                self.assert_raises("InvalidFirst", value, call, *passed, first=value)

    def test_great_sizes(self):
        for size in [11, 60]:
            bench = self.filled(size)
            self.assert_raises_equal("TooLarge", size, bench.right, "net")
            self.assert_raises_equal("TooLarge", size, bench.enough, "few")
            self.assert_raises_equal("TooLarge", size, bench.refuted, "few")
            bench.drop("net")
            self.assert_raises_equal("TooLarge", size, bench.refuted, "few")
            bench.put("net", sorter(size))
            self.assertIs(bench.passed("net", "few"), True)

    def test_the_first_test_that_does_not_fit(self):
        bench = self.filled()
        bench.add("few", (2, 1, 0))
        for call in [bench.enough, bench.refuted]:
            self.assert_raises_equal("NotFitting", (3, 2, 1), call, "few", "know")
        bench.drop("net")
        self.assert_raises_equal("NotFitting", (3, 2, 1), bench.refuted, "few", "know")
        self.assertEqual(bench.refuted("few"), [])


if __name__ == "__main__":
    unittest.main()
