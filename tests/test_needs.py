import itertools
import unittest

from enoughtests.needs import strength, thinned, vital
from enoughtests.orders import Order, chains

from helping import ProgramTest, fitting, listed_cases, named, plain_needed, plain_rows, plain_words


def words_of_lists(order, tests, first):
    """For each test the set of its needed words, found in the plainest way."""
    needed = plain_needed(order, first) if order.size < 9 else None
    most = order.size if first is None else first
    return [{word for word in plain_words(test)
             if (word in needed if needed is not None else "10" in word and word.count("0") <= most)} for test in tests]


def union(sets):
    return set().union(*sets)


def vital_plainly(words):
    return [at for at in range(len(words)) if words[at] - union(words[:at] + words[at + 1:])]


def thinned_plainly(words):
    left = list(range(len(words)))
    for at in reversed(range(len(words))):
        others = [words[other] for other in left if other != at]
        if words[at] <= union(others):
            left.remove(at)
    return left


def strength_plainly(words):
    return [len(words[at] - union(words[:at])) for at in range(len(words))]


CALLS = [(vital, vital_plainly), (thinned, thinned_plainly), (strength, strength_plainly)]


class Examples(unittest.TestCase):
    def test_examples_of_the_interface(self):
        tests = [(2, 1, 0), (2, 0, 1), (1, 2, 0)]
        self.assertEqual(
            [vital(3, tests), thinned(3, tests), strength(3, tests), vital(3, tests[1:]),
             thinned(3, tests[1:] + tests[:1])],
            [[1, 2], [1, 2], [2, 1, 1], [0, 1], [0, 1]])


class NeedsTest(ProgramTest):
    def check(self, order, tests, first, told):
        words = words_of_lists(order, tests, first)
        for call, plainly in CALLS:
            self.assertEqual(call(order.size, tests, **told), plainly(words))


class Points39And40(NeedsTest):
    def test_lists_of_small_sizes(self):
        for order, first, tests in listed_cases():
            self.check(order, tests, first, named(order, first))

    def test_all_lists_of_three_tests(self):
        for order in [Order(3), Order(3, [(2, 1)])]:
            for tests in itertools.product(fitting(plain_rows(3), order), repeat=3):
                for first in [None, 1, 2]:
                    self.check(order, tests, first, named(order, first))

    def test_lists_of_tests_of_size_four_in_several_orders(self):
        rows = plain_rows(4)
        for step in [5, 7, 11, 13]:
            tests = [rows[at * step % 24] for at in range(24)]
            for many in range(0, 25, 3):
                for first in [None, 1, 2, 3]:
                    self.check(Order(4), tests[:many], first, named(Order(4), first))

    def test_a_test_twice_is_not_vital(self):
        row = (2, 1, 0)
        self.assertEqual((vital(3, [row]), thinned(3, [row]), strength(3, [row])), ([0], [0], [2]))
        self.assertEqual((vital(3, [row, row]), thinned(3, [row, row]), strength(3, [row, row])), ([], [0], [2, 0]))
        self.assertEqual(vital(3, [row, [9, 5, -9]]), [])
        self.assertEqual(thinned(3, [row, (0, 2, 1), [9, 5, -9], (0, 2, 1)]), [0, 1])

    def test_the_last_test_is_left_out_first(self):
        # The first one of these tests is covered by the other two.
        tests = [(2, 1, 0), (2, 0, 1), (1, 2, 0)]
        for some in itertools.permutations([*tests, (0, 2, 1), (1, 0, 2)]):
            self.check(Order(3), list(some), None, {})
        self.assertEqual(thinned(3, [(2, 0, 1), (1, 2, 0), (2, 1, 0), (2, 0, 1)]), [0, 1])
        self.assertEqual(thinned(3, [(2, 1, 0), (2, 1, 0), (2, 1, 0)]), [0])

    def test_sorted_tests_have_no_needed_words(self):
        for size in [1, 2, 5, 60]:
            tests = [tuple(range(size)), list(range(10, 10 + size))]
            self.assertEqual((vital(size, tests), thinned(size, tests), strength(size, tests)), ([], [], [0, 0]))
        self.assertEqual(thinned(3, [(0, 1, 2), (0, 2, 1)]), [1])
        self.assertEqual(vital(3, [(1, 2, 0), (0, 1, 2)], known=Order(3, [(0, 1)])), [0])

    def test_words_with_too_many_zeros_do_not_count(self):
        tests = [(2, 1, 0), (2, 0, 1)]
        self.assertEqual((vital(3, tests), vital(3, tests, first=1)), ([0, 1], [0, 1]))
        self.assertEqual((strength(3, tests), strength(3, tests, first=1)), ([2, 1], [1, 1]))
        tests = [(1, 2, 0), (2, 1, 0)]
        self.assertEqual((vital(3, tests, first=1), thinned(3, tests, first=1), strength(3, tests, first=1)),
                         ([], [0], [1, 0]))
        self.assertEqual((vital(3, tests, first=2), thinned(3, tests, first=2), strength(3, tests, first=2)),
                         ([0, 1], [0, 1], [2, 1]))

    def test_empty_lists(self):
        for tests in [[], ()]:
            self.assertEqual((vital(5, tests), thinned(5, tests), strength(60, tests)), ([], [], []))

    def test_what_is_left_is_vital_and_covers_the_same_words(self):
        for order, first, tests in listed_cases():
            left = [tests[at] for at in thinned(order.size, tests, known=order, first=first)]
            self.assertEqual(vital(order.size, left, known=order, first=first), list(range(len(left))))
            self.assertEqual(union(words_of_lists(order, left, first)), union(words_of_lists(order, tests, first)))

    def test_size_sixty(self):
        turned = [tuple((item * step + by) % 60 for item in range(60)) for step in (1, 7, 59) for by in range(0, 60, 2)]
        for tests in [turned[:20], turned + turned[:10], turned[::-1]]:
            for first in [None, 1, 5, 60]:
                self.check(Order(60), tests, first, named(Order(60), first))
        merged = [(*range(one), *range(30 + one, 60), *range(one, 30 + one)) for one in range(31)]
        merged += [(*range(1, 60, 2), *range(0, 60, 2))]
        self.check(chains([30, 30]), merged * 3, None, {"known": chains([30, 30])})
        self.check(chains([30, 30]), merged, 9, {"known": chains([30, 30]), "first": 9})

    def test_arguments_by_name(self):
        given = {"first": 1, "known": Order(3, [(0, 1)]), "tests": ([1, 2, 0], (0, 2, 1)), "size": 3}
        self.assertEqual([call(**given) for call in (vital, thinned, strength)], [[0], [0], [1, 0]])
        for call in (vital, thinned, strength):
            with self.assertRaises(TypeError):
                call(3, [], Order(3))

    def test_exceptions(self):
        for call in (vital, thinned, strength):
            self.check_lists(call)

    def test_told_lists_are_new_and_tests_stay(self):
        tests = [[2, 1, 0], (0, 2, 1)]
        for call in (vital, thinned, strength):
            told = call(3, tests)
            expected = list(told)
            told.clear()
            self.assertEqual(call(3, tests), expected)
            self.assertEqual(tests, [[2, 1, 0], (0, 2, 1)])


if __name__ == "__main__":
    unittest.main()
