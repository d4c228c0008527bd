"""Which needed words lists of tests cover, and whether the tests are enough.

Two facts are behind all that is told here. A list of tests that fit is enough exactly if it covers all needed words.
And a near-sorter of a needed word works for all tests that do not cover it, but not for a row of which it is a word:
the word has at most first zeros, so a 1 comes out among the first items where a 0 should.
"""

from enoughtests.checking import checked, covered_words, require_tests, uncovered_word, uncovered_words
from enoughtests.judging import is_failing, works
from enoughtests.near import near_sorter
from enoughtests.networks import Network, require_network
from enoughtests.orders import checked_first


def covered(size, tests, *, known=None, first=None):
    """The needed words that tests cover, in ascending order."""
    _, most = checked(size, [tests], known, first)
    return sorted(covered_words(tests, most))


def missing(size, tests, *, known=None, first=None):
    """The needed words that tests do not cover, in ascending order."""
    order, most = checked(size, [tests], known, first)
    return uncovered_words(order, tests, most)


def passes(network, tests, *, first=None):
    """Whether a network works for each one of a list of tests."""
    require_network(network)
    require_tests(tests, network.size)
    most = checked_first(first, network.size)
    return all([works(network, test, first=most) for test in tests])


def are_enough(size, tests, *, known=None, first=None):
    """Whether every network that passes the tests is right."""
    return len(missing(size, tests, known=known, first=first)) == 0


def counter(size, tests, *, known=None, first=None):
    """A network that passes all tests and a row that fits and for which it does not work, or None."""
    order, most = checked(size, [tests], known, first)
    words = uncovered_words(order, tests, most)
    if len(words) == 0:
        return None
    return near_sorter(words[0]), order.row_through(words[:1])


def is_counter(size, tests, value, *, known=None, first=None):
    """Whether any value is a tuple as counter returns one, with a row that may have any integers."""
    order, most = checked(size, [tests], known, first)
    if not isinstance(value, tuple) or len(value) != 2:
        return False
    network, row = value
    if not isinstance(network, Network) or network.size != size or not isinstance(row, tuple):
        return False
    return is_failing(network, row, known=order, first=most) and passes(network, tests, first=most)


def implies(size, one, other, *, known=None, first=None):
    """Whether every network that passes the list of tests one passes the list of tests other."""
    return parting_network(size, one, other, known=known, first=first) is None


def parting_network(size, one, other, *, known=None, first=None):
    """A network that passes one and the index of a test of other that it does not pass, or None."""
    # A network that works for the needed words of a test works for the test:
    # among its other words, those that are not sorted have more zeros, and
    # they are below one that is sorted or needed and has just first zeros.
    _, most = checked(size, [one, other], known, first)
    found = covered_words(one, most)
    for index, test in enumerate(other):
        word = uncovered_word(test, found, most)
        if word is not None:
            return near_sorter(word), index
    return None
