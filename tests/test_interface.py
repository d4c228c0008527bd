"""Checks the names and the parameters of the interface."""

import importlib
import inspect
import unittest

LISTED = "(size, tests, *, known=None, first=None)"

FUNCTIONS = {
    "words": {
        "is_integer": "(value)", "is_word": "(value, size=None)", "is_row": "(value, size=None)",
        "is_sorted": "(value)", "zeros": "(word)", "below": "(one, other)", "mirrored": "(value)",
        "words_of": "(row)", "row_of": "(words)",
    },
    "orders": {"chains": "(sizes)", "needed": "(order, *, first=None)"},
    "networks": {"sorter": "(size)"},
    "judging": {
        "works": "(network, value, *, first=None)", "sorts": "(network, *, known=None, first=None)",
        "failing_words": "(network, *, known=None, first=None)",
        "failing_word": "(network, *, known=None, first=None)",
        "failing_row": "(network, *, known=None, first=None)",
        "is_failing": "(network, value, *, known=None, first=None)",
    },
    "outcomes": {
        "never_above": "(network, one, other, *, known=None)", "out_order": "(network, *, known=None)",
        "ranks": "(network, line, *, known=None)", "sources": "(network, line, *, known=None)",
        "rank_row": "(network, line, rank, *, known=None)", "source_row": "(network, line, source, *, known=None)",
        "alike": "(one, other, *, known=None)", "parting_row": "(one, other, *, known=None)",
        "idle_steps": "(network, *, known=None)",
    },
    "near": {"near_sorter": "(word)", "is_near_sorter": "(network, word)", "only_failing": "(network)"},
    "covering": {
        "covered": LISTED, "missing": LISTED, "passes": "(network, tests, *, first=None)", "are_enough": LISTED,
        "counter": LISTED, "is_counter": "(size, tests, value, *, known=None, first=None)",
        "implies": "(size, one, other, *, known=None, first=None)",
        "parting_network": "(size, one, other, *, known=None, first=None)",
    },
    "sure": {
        "is_sure": "(size, tests, row, *, known=None, first=None)",
        "doubt": "(size, tests, row, *, known=None, first=None)",
        "sure_count": LISTED, "sure_rows": LISTED, "doubtful_row": LISTED,
    },
    "needs": {"vital": LISTED, "thinned": LISTED, "strength": LISTED},
    "fewest": {
        "fewest": "(size, *, known=None, first=None)", "further": LISTED,
        "bar": "(size, *, known=None, first=None)", "further_bar": LISTED,
        "is_bar": "(size, tests, value, *, known=None, first=None)",
        "fewest_count": "(size, tests=(), *, known=None, first=None)",
    },
    "families": {
        "needed_count": "(size, *, first=None)", "family_count": "(size, *, first=None)", "shape_of": "(word)",
        "row_of_shape": "(shape)", "test_of": "(word)", "family": "(size, *, first=None)",
        "nth_shape": "(size, number, *, first=None)", "shape_number": "(shape, *, first=None)",
        "merge_needed": "(one, other)", "merge_tests": "(one, other)",
    },
}

CLASSES = {
    ("orders", "Order"): {
        "__init__": "(self, size, pairs=())", "fits": "(self, value)", "words": "(self)", "word_count": "(self)",
        "rows": "(self)", "row_count": "(self)", "row_through": "(self, words)", "__len__": "(self)",
        "__contains__": "(self, value)", "__iter__": "(self)", "__eq__": "(self, other)", "__or__": "(self, other)",
        "__invert__": "(self)",
    },
    ("networks", "Network"): {
        "__init__": "(self, size, steps=())", "__call__": "(self, value)", "trace": "(self, value)",
        "beside": "(self, other)", "on_lines": "(self, size, lines)", "without": "(self, index)", "__len__": "(self)",
        "__iter__": "(self)", "__eq__": "(self, other)", "__mul__": "(self, other)", "__invert__": "(self)",
        "__str__": "(self)",
    },
    ("bench", "Bench"): {
        "__init__": "(self, size)", "__len__": "(self)", "__contains__": "(self, value)",
        "__getitem__": "(self, name)", "names": "(self)", "kind": "(self, name)", "put": "(self, name, thing)",
        "add": "(self, name, item)", "drop": "(self, name)", "rename": "(self, name, other)", "undo": "(self)",
        "trial": "(self)", "tried": "(self, act)", "right": "(self, network, order=None, *, first=None)",
        "enough": "(self, tests, order=None, *, first=None)", "passed": "(self, network, tests, *, first=None)",
        "refuted": "(self, tests, order=None, *, first=None)",
    },
    ("console", "Console"): {"__init__": "(self, bench)", "__call__": "(self, line)", "run": "(self, lines)"},
}


def module(name):
    return importlib.import_module(f"enoughtests.{name}")


class Interface(unittest.TestCase):
    def test_functions_are_defined_in_their_files_with_their_parameters(self):
        for name, functions in FUNCTIONS.items():
            for function, parameters in functions.items():
                with self.subTest(function):
                    found = getattr(module(name), function)
                    self.assertEqual(found.__module__, f"enoughtests.{name}")
                    self.assertEqual(str(inspect.signature(found)), parameters)

    def test_methods_are_defined_in_their_classes_with_their_parameters(self):
        for (name, known), methods in CLASSES.items():
            found = getattr(module(name), known)
            self.assertEqual(found.__module__, f"enoughtests.{name}")
            for method, parameters in methods.items():
                with self.subTest(known, method=method):
                    self.assertEqual(str(inspect.signature(vars(found)[method])), parameters)

    def test_read_is_a_class_method(self):
        network = module("networks").Network
        self.assertIsInstance(vars(network)["read"], classmethod)
        self.assertEqual(str(inspect.signature(network.read)), "(text)")


if __name__ == "__main__":
    unittest.main()
