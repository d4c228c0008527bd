"""Which tests of a list are needed for what the list makes sure."""

from enoughtests.checking import checked, needed_words


def vital(size, tests, *, known=None, first=None):
    """The indexes of the tests that cover a needed word which no other test covers, in ascending order."""
    words = _words_of_tests(size, tests, known, first)
    many = _how_often(words)
    return [index for index in range(len(words)) if any([many[word] == 1 for word in words[index]])]


def thinned(size, tests, *, known=None, first=None):
    """The indexes of the tests that are left if, from the last one on, each is left out that is not needed any more."""
    words = _words_of_tests(size, tests, known, first)
    many = _how_often(words)
    left = []
    for index in range(len(words) - 1, -1, -1):
        if any([many[word] == 1 for word in words[index]]):
            left.append(index)
        else:
            for word in words[index]:
                many[word] = many[word] - 1
    return left[::-1]


def strength(size, tests, *, known=None, first=None):
    """For each test the number of the needed words that it covers and no earlier test does."""
    covered = {}
    numbers = []
    for words in _words_of_tests(size, tests, known, first):
        numbers.append(len([word for word in words if word not in covered]))
        covered.update({word: True for word in words})
    return numbers


def _words_of_tests(size, tests, known, first):
    """For each test the list of its needed words, behind the checks of all."""
    _, most = checked(size, [tests], known, first)
    return [needed_words(test, most) for test in tests]


def _how_often(lists):
    """For each word the number of the lists that it is in; no list has a word twice."""
    many = {}
    for words in lists:
        for word in words:
            many[word] = many.get(word, 0) + 1
    return many
