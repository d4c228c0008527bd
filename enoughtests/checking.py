"""Lists of tests: whether they are ones, and which needed words they cover."""

from enoughtests.errors import InvalidRow, InvalidSize, InvalidTests, NotFitting
from enoughtests.orders import checked_first, checked_known, needed
from enoughtests.words import is_list, is_row, is_size, may_be_needed, words_of


def is_test(value, size):
    """Whether any value is a test of a size, or a list with the items of one."""
    return is_row(value, size) and len(set(value)) == size


def require_tests(tests, size):
    """Raises InvalidTests for any value that is not a list, and InvalidRow with the first item that is no test."""
    if not is_list(tests):
        raise InvalidTests(tests)
    for item in tests:
        if not is_test(item, size):
            raise InvalidRow(item)


def _require_fitting(tests, order):
    """Raises NotFitting with the first test that does not fit."""
    for item in tests:
        if not order.fits(item):
            raise NotFitting(item)


def checked(size, lists, known, first):
    """The known order and the number of the first items, behind the checks of a size, of lists of tests and of both."""
    if not is_size(size):
        raise InvalidSize(size)
    for tests in lists:
        require_tests(tests, size)
    order = checked_known(known, size)
    most = checked_first(first, size)
    for tests in lists:
        _require_fitting(tests, order)
    return order, most


def needed_words(test, most):
    """The needed words of a test that fits; all its words fit as well."""
    return [word for word in words_of(test) if may_be_needed(word, most)]


def covered_words(tests, most):
    """The needed words that tests cover, as the keys of a dict."""
    return {word: True for test in tests for word in needed_words(test, most)}


def uncovered_words(order, tests, most):
    """The needed words that tests do not cover, in ascending order."""
    covered = covered_words(tests, most)
    return [word for word in needed(order, first=most) if word not in covered]


def uncovered_word(test, covered, most):
    """A needed word of a test that is not among the covered ones, or None if there is none."""
    for word in needed_words(test, most):
        if word not in covered:
            return word
    return None
