"""What the tests share."""

import sys
import unittest

from enoughtests import errors
from enoughtests.orders import Order


class ProgramTest(unittest.TestCase):
    """A test case that knows the exceptions of the program."""

    def assert_raises(self, name, value, call, *passed, **named):
        """A call raises exactly this exception, which keeps this very value."""
        error = self._raised(name, call, passed, named)
        self.assertIs(self._kept(error), value)

    def assert_raises_equal(self, name, value, call, *passed, **named):
        """A call raises exactly this exception, which keeps a value that equals this one."""
        error = self._raised(name, call, passed, named)
        kept = self._kept(error)
        self.assertEqual((type(kept), kept), (type(value), value))

    def _raised(self, name, call, passed, named):
        with self.assertRaises(errors.SorterError) as caught:
            call(*passed, **named)
        self.assertIs(type(caught.exception), getattr(errors, name))
        return caught.exception

    def _kept(self, error):
        (kept,) = vars(error).values()
        return kept


def wrong_values():
    """Values of all kinds that may be passed, none of which is an integer, a word, a row or a pair of lines."""
    return [
        None, True, False, "", " ", "a", "2", "012", "0 1", "01\n", "-1", "00" * 500, "0" * 61,
        [], (), {}, {"a": 1}, {0: 1}, [None], [True], (False,), ["0"], ("1",), [0, "1"], (0, None), [[0]],
        ((0, 1),), [[0], [1]], {"0": [1]}, [{}], (0, (1,)), [0] * 61, tuple(range(61)),
        Order(2), Order(3, [(0, 1)]), [Order(1)],
    ]


def count_events(call):
    """How many calls are made while a call runs, those of builtin functions included."""
    events = []
    sys.setprofile(lambda frame, event, told: events.append(event))
    try:
        call()
    finally:
        sys.setprofile(None)
    return len(events)
