"""Checks what the document promises over the whole program: points 1 and 9 to 12."""

import copy
import inspect
import itertools
import types
import unittest

from enoughtests import covering, families, fewest, judging, near, needs, networks, orders, outcomes, sure, words
from enoughtests.bench import Bench
from enoughtests.console import Console
from enoughtests.networks import Network
from enoughtests.orders import Order

from helping import ProgramTest, all_firsts, all_rows, all_words, fitting, known_orders, lists_of_tests, made
from helping import networks as all_networks
from helping import plain_needed, plain_rows, plain_words
from test_interface import FUNCTIONS


def network():
    return Network(3, [(0, 2), (0, 1)])


def known():
    return Order(3, [(0, 1)])


def tests():
    return [[1, 2, 0], (0, 2, 1)]


def some_bench():
    """A bench with a thing of each kind."""
    bench = Bench(3)
    bench.put("net", network())
    bench.put("know", known())
    bench.put("few", tests())
    return bench


def asked_by_size():
    return {"size": 3, "known": known(), "first": 2}


def asked_by_tests():
    return {"size": 3, "tests": tests(), "known": known(), "first": 1}


def asked_by_network():
    return {"network": network(), "known": known(), "first": 2}


def calls():
    """Each function, class and method of the interface that changes nothing, with all its parameters."""
    order, bench = known(), some_bench()
    outcome = {"network": network(), "known": known()}
    return [
        (words.is_integer, {"value": 5}), (words.is_word, {"value": "01", "size": 2}),
        (words.is_row, {"value": [0, 5], "size": 2}), (words.is_sorted, {"value": [1, 0]}),
        (words.zeros, {"word": "010"}), (words.below, {"one": "01", "other": "11"}),
        (words.mirrored, {"value": [1, 5]}), (words.words_of, {"row": [2, 0, 1]}),
        (words.row_of, {"words": ["100", "101"]}),
        (Order, {"size": 3, "pairs": [(0, 1), (1, 2)]}), (order.fits, {"value": [0, 1, 2]}),
        (order.words, {}), (order.word_count, {}), (order.rows, {}), (order.row_count, {}),
        (order.row_through, {"words": ["010", "011"]}), (orders.chains, {"sizes": [2, 1]}),
        (orders.needed, {"order": known(), "first": 2}),
        (Network, {"size": 3, "steps": [(0, 1), (1, 2)]}), (network(), {"value": [2, 1, 0]}),
        (network().trace, {"value": [2, 1, 0]}), (network().beside, {"other": Network(2)}),
        (network().on_lines, {"size": 4, "lines": [0, 1, 3]}), (network().without, {"index": 1}),
        (Network.read, {"text": "3: 0-1"}), (networks.sorter, {"size": 4}),
        (judging.works, {"network": network(), "value": [0, 2, 1], "first": 2}),
        (judging.sorts, asked_by_network()), (judging.failing_words, asked_by_network()),
        (judging.failing_word, asked_by_network()), (judging.failing_row, asked_by_network()),
        (judging.is_failing, {"network": network(), "value": [0, 2, 1], "known": known(), "first": 2}),
        (outcomes.never_above, {"network": network(), "one": 0, "other": 1, "known": known()}),
        (outcomes.out_order, outcome), (outcomes.ranks, {"network": network(), "line": 1, "known": known()}),
        (outcomes.sources, {"network": network(), "line": 1, "known": known()}),
        (outcomes.rank_row, {"network": network(), "line": 1, "rank": 1, "known": known()}),
        (outcomes.source_row, {"network": network(), "line": 1, "source": 1, "known": known()}),
        (outcomes.alike, {"one": network(), "other": Network(3), "known": known()}),
        (outcomes.parting_row, {"one": network(), "other": Network(3), "known": known()}),
        (outcomes.idle_steps, {"network": network() * network(), "known": known()}),
        (near.near_sorter, {"word": "0110"}), (near.is_near_sorter, {"network": network(), "word": "010"}),
        (near.only_failing, {"network": network()}),
        (covering.covered, asked_by_tests()), (covering.missing, {**asked_by_tests(), "tests": [[0, 1, 2]]}),
        (covering.passes, {"network": network(), "tests": tests(), "first": 1}),
        (covering.are_enough, asked_by_tests()), (covering.counter, {**asked_by_tests(), "tests": [[0, 1, 2]]}),
        (covering.is_counter, {**asked_by_tests(), "value": (network(), (0, 2, 1))}),
        (covering.implies, {"size": 3, "one": tests(), "other": tests(), "known": known(), "first": 2}),
        (covering.parting_network, {"size": 3, "one": [], "other": tests(), "known": known(), "first": 2}),
        (sure.is_sure, {**asked_by_tests(), "row": [0, 2, 1]}),
        (sure.doubt, {**asked_by_tests(), "tests": [], "row": [1, 2, 0]}), (sure.sure_count, asked_by_tests()),
        (sure.sure_rows, asked_by_tests()), (sure.doubtful_row, {**asked_by_tests(), "tests": []}),
        (needs.vital, asked_by_tests()), (needs.thinned, asked_by_tests()), (needs.strength, asked_by_tests()),
        (fewest.fewest, asked_by_size()), (fewest.further, {**asked_by_tests(), "tests": [[0, 1, 2]]}),
        (fewest.bar, asked_by_size()), (fewest.further_bar, {**asked_by_tests(), "tests": [[0, 1, 2]]}),
        (fewest.is_bar, {**asked_by_tests(), "value": ["010"]}), (fewest.fewest_count, asked_by_tests()),
        (families.needed_count, {"size": 5, "first": 2}), (families.family_count, {"size": 5, "first": 2}),
        (families.shape_of, {"word": "0110"}), (families.row_of_shape, {"shape": ".()."}),
        (families.test_of, {"word": "0110"}), (families.family, {"size": 4, "first": 1}),
        (families.nth_shape, {"size": 4, "number": 2, "first": 1}),
        (families.shape_number, {"shape": ".().", "first": 1}), (families.merge_needed, {"one": 3, "other": 2}),
        (families.merge_tests, {"one": 3, "other": 2}),
        (bench.names, {}), (bench.kind, {"name": "net"}),
        (bench.right, {"network": "net", "order": "know", "first": 1}),
        (bench.enough, {"tests": "few", "order": "know", "first": 1}),
        (bench.passed, {"network": "net", "tests": "few", "first": 1}),
        (bench.refuted, {"tests": "few", "order": "know", "first": 2}),
        (bench.tried, {"act": plain_act}), (Console(bench), {"line": "names"}),
        (Console(bench).run, {"lines": ["names", "show few"]}),
    ]


def plain_act(bench):
    return bench.names()


def deeds():
    """Each method of a bench that changes it, with all its parameters."""
    return [("put", {"name": "new", "thing": tests()}), ("add", {"name": "few", "item": [5, 6, 9]}),
            ("drop", {"name": "know"}), ("rename", {"name": "net", "other": "new"}), ("undo", {})]


def plain(value):
    """A value that may be compared: what a generator or a list goes through, and what networks and orders hold."""
    if isinstance(value, (list, tuple, types.GeneratorType)):
        return (type(value).__name__, [plain(item) for item in value])
    if isinstance(value, Network):
        return ("network", value.size, list(value))
    return ("order", value.size, value.pairs) if isinstance(value, Order) else (type(value).__name__, value)


def state(bench):
    return {name: plain(bench[name]) for name in bench.names()}, bench.deeds


class Points10And11(ProgramTest):
    def test_no_function_of_the_interface_is_left_out(self):
        asked = {(call.__module__, call.__name__) for call, _ in calls() if isinstance(call, types.FunctionType)}
        listed = {(f"enoughtests.{name}", function) for name in FUNCTIONS for function in FUNCTIONS[name]}
        self.assertEqual(asked, listed)

    def test_arguments_by_position_and_by_name(self):
        for call, given in calls():
            kinds = {name: part.kind for name, part in inspect.signature(call).parameters.items()}
            self.assertEqual(sorted(kinds), sorted(given), call)
            ahead = [name for name in kinds if kinds[name] == inspect.Parameter.POSITIONAL_OR_KEYWORD]
            expected = plain(call(**given))
            for many in range(1, len(ahead) + 1):
                with self.subTest(call=call, many=many):
                    passed = [given[name] for name in ahead[:many]]
                    named = {name: given[name] for name in given if name not in ahead[:many]}
                    self.assertEqual(plain(call(*passed, **named)), expected)

    def test_equal_calls_return_equal_results(self):
        for (call, given), (again, same) in zip(calls(), calls()):
            with self.subTest(call=call):
                self.assertEqual(plain(call(**given)), plain(again(**same)))
                self.assertEqual(plain(call(**given)), plain(call(**given)))

    def test_arguments_stay_as_they_were(self):
        for call, given in calls():
            with self.subTest(call=call):
                ahead = plain(list(given.values()))
                plain(call(**given))
                self.assertEqual(plain(list(given.values())), ahead)

    def test_told_lists_are_new(self):
        for call, given in calls():
            told = call(**given)
            if isinstance(told, list):
                with self.subTest(call=call):
                    expected = plain(told)
                    told.append(None)
                    told[0] = None
                    self.assertEqual(plain(call(**given)), expected)

    def test_tuples_stand_for_lists_and_lists_for_rows(self):
        for call, given in calls():
            for key, value in given.items():
                if isinstance(value, list):
                    with self.subTest(call=call, key=key):
                        changed = tuple(tuple(item) if isinstance(item, list) else item for item in value)
                        self.assertEqual(plain(call(**{**given, key: changed})), plain(call(**given)))

    def test_objects_do_not_change_with_what_they_were_made_of(self):
        pairs, steps = [(0, 1)], [(0, 1)]
        order, made_network = Order(3, pairs), Network(3, steps)
        pairs.append((1, 2))
        steps.clear()
        self.assertEqual((order.pairs, list(made_network)), (((0, 1),), [(0, 1)]))

    def test_what_was_told_may_be_passed_in_again(self):
        tests = fewest.fewest(9)
        self.assertEqual(len(tests), 125)
        self.assertIs(covering.are_enough(9, tests), True)
        self.assertIs(covering.are_enough(9, tests[:60] + tests[61:]), False)
        self.assertEqual(needs.thinned(9, tests[::-1]), list(range(125)))
        self.assertIs(fewest.is_bar(9, [], fewest.bar(9)[::2]), True)
        family = list(families.family(8))
        self.assertIs(covering.are_enough(8, family), True)
        self.assertEqual(fewest.fewest_count(8, family[1:]), 1)
        merge = families.merge_tests(30, 30)
        self.assertEqual(needs.vital(60, merge, known=orders.chains([30, 30])), list(range(30)))
        self.assertEqual(len(covering.covered(60, merge, known=orders.chains([30, 30]))), 900)
        found = covering.counter(10, families.merge_tests(5, 5))
        self.assertIs(covering.is_counter(10, families.merge_tests(5, 5), found), True)


class Benches(ProgramTest):
    def test_deeds_by_position_and_by_name(self):
        for deed, given in deeds():
            one, other = some_bench(), some_bench()
            ahead = copy.deepcopy(given)
            self.assertIsNone(getattr(one, deed)(**given))
            self.assertIsNone(getattr(other, deed)(*given.values()))
            self.assertEqual(state(one), state(other))
            self.assertNotEqual(state(one), state(some_bench()))
            self.assertEqual(given, ahead)

    def test_questions_change_nothing(self):
        bench = some_bench()
        ahead = state(bench)
        for call in [lambda: bench.right("net", "know"), lambda: bench.enough("few", "know", first=1),
                     lambda: bench.passed("net", "few"), lambda: bench.refuted("few"), lambda: bench.kind("net"),
                     lambda: bench["few"], lambda: bench.names(), lambda: bench.tried(lambda given: given.undo())]:
            call()
            self.assertEqual(state(bench), ahead)

    def test_nothing_has_changed_where_a_call_raises(self):
        bench = some_bench()
        ahead = state(bench)
        for call in [lambda: bench.put("net", []), lambda: bench.put("new", [(0, 1, 1)]), lambda: bench.put("New", []),
                     lambda: bench.add("net", (2, 1)), lambda: bench.add("know", (1, 0)),
                     lambda: bench.add("few", (0, 0, 1)), lambda: bench.add("new", (0, 1)), lambda: bench.drop("new"),
                     lambda: bench.rename("net", "few"), lambda: bench.rename("net", "net"),
                     lambda: bench.rename("net", ""), lambda: bench.right("few"), lambda: bench.enough("net"),
                     lambda: bench.passed("net", "few", first=4), lambda: bench.refuted("few", "new"),
                     lambda: bench.tried(lambda given: given.drop("few") or given.drop("few")),
                     lambda: Console(bench)("undo "), lambda: Console(bench).run("undo")]:
            with self.assertRaises(ValueError):
                call()
            self.assertEqual(state(bench), ahead)


class Point9(ProgramTest):
    """What holds whatever the size, the known order and first are, asked of the program and found in the tests."""

    def works(self, network, value, first):
        most = network.size if first is None else first
        return made(network, value)[:most] == sorted(value)[:most]

    def test_a_network_works_for_a_row_exactly_if_it_works_for_its_words(self):
        for some in [*all_networks(3, 3), *all_networks(4, 2)[::7], ~networks.sorter(4).without(2)]:
            for first in all_firsts(some.size):
                for row in all_rows(some.size):
                    expected = all(judging.works(some, word, first=first) for word in words.words_of(row))
                    self.assertIs(judging.works(some, row, first=first), expected)

    def test_the_words_of_what_comes_out_are_what_comes_out_for_the_words(self):
        for some in all_networks(3, 2):
            for row in all_rows(3):
                self.assertEqual(words.words_of(some(row)), [some(word) for word in words.words_of(row)])

    def test_a_network_is_right_exactly_if_it_works_for_all_needed_words(self):
        for order in known_orders():
            for some in all_networks(order.size, 2 if order.size < 4 else 1) if order.size > 1 else [Network(1)]:
                for first in all_firsts(order.size):
                    needed = orders.needed(order, first=first)
                    self.assertEqual(needed, plain_needed(order, first))
                    expected = all(judging.works(some, word, first=first) for word in needed)
                    self.assertIs(judging.sorts(some, known=order, first=first), expected)

    def test_there_is_a_near_sorter_of_each_word_that_is_not_sorted(self):
        for size in range(2, 7):
            for word in all_words(size):
                if list(word) != sorted(word):
                    found = near.near_sorter(word)
                    failing = [other for other in all_words(size) if made(found, other) != sorted(other)]
                    self.assertEqual(failing, [word])

    def test_enough_and_sure_are_told_by_the_needed_words(self):
        for order in known_orders()[::2]:
            for first, some in itertools.product(all_firsts(order.size), lists_of_tests(order)[1:5]):
                words_of_tests = {word for row in some for word in plain_words(row)}
                missing = [word for word in plain_needed(order, first) if word not in words_of_tests]
                told = {"known": order, "first": first}
                self.assertIs(covering.are_enough(order.size, some, **told), missing == [])
                for row in fitting(plain_rows(order.size), order):
                    expected = not any(word in missing for word in plain_words(row))
                    self.assertIs(sure.is_sure(order.size, some, row, **told), expected)

    def test_the_least_number_of_tests_is_the_greatest_number_of_words_none_below_another(self):
        for order in known_orders()[::2]:
            for first in all_firsts(order.size):
                more = fewest.further(order.size, [], known=order, first=first)
                apart = fewest.further_bar(order.size, [], known=order, first=first)
                self.assertEqual(len(more), len(apart))
                self.assertIs(covering.are_enough(order.size, more, known=order, first=first), True)


class Point1(ProgramTest):
    def test_a_list_that_is_not_enough_is_met_by_a_network_and_a_row(self):
        tests = [(2, 1, 0)]
        found, row = covering.counter(3, tests)
        self.assertIs(covering.passes(found, tests), True)
        self.assertNotEqual(found(row), tuple(sorted(row)))
        more = fewest.further(3, tests)
        self.assertIs(covering.are_enough(3, tests + more), True)
        self.assertIsNone(covering.counter(3, tests + more))

    def test_whoever_passes_enough_tests_sorts_all_rows(self):
        tests = fewest.fewest(3)
        for some in all_networks(3, 4):
            if covering.passes(some, tests):
                self.assertTrue(all(made(some, row) == sorted(row) for row in all_rows(3)))


if __name__ == "__main__":
    unittest.main()
