"""Which rows are sure after a list of tests: every network that passes the tests works for them."""

from enoughtests.checking import checked, covered_words, uncovered_word, uncovered_words
from enoughtests.near import near_sorter


def is_sure(size, tests, row, *, known=None, first=None):
    """Whether every network that passes the tests works for a row."""
    return _doubtful_word(size, tests, row, known, first) is None


def doubt(size, tests, row, *, known=None, first=None):
    """A network that passes all tests and does not work for a row, or None if there is none."""
    word = _doubtful_word(size, tests, row, known, first)
    return None if word is None else near_sorter(word)


def _doubtful_word(size, tests, row, known, first):
    """A needed word of a row that the tests do not cover, or None if there is none."""
    _, most = checked(size, [tests, [row]], known, first)
    return uncovered_word(row, covered_words(tests, most), most)


def sure_count(size, tests, *, known=None, first=None):
    """The number of the rows that sure_rows goes through."""
    _, sure = _fitting_and_sure_words(size, tests, known, first)
    return _count_rows((), size, sure)


def sure_rows(size, tests, *, known=None, first=None):
    """Goes through the rows that fit, have the integers from 0 on and are sure, in ascending order."""
    _, sure = _fitting_and_sure_words(size, tests, known, first)
    # Each head is one that some sure row begins with, so no time is spent on dead ends.
    heads = [()]
    while len(heads) > 0:
        head = heads.pop()
        if len(head) == size:
            yield head
        else:
            longer = _longer_heads(head, size)[::-1]
            heads.extend([begun for begun in longer if _count_rows(begun, size, sure) > 0])


def doubtful_row(size, tests, *, known=None, first=None):
    """The first row that fits, has the integers from 0 on and is not sure, or None if there is none."""
    fitting, sure = _fitting_and_sure_words(size, tests, known, first)
    row = ()
    while len(row) < size:
        doubtful = [head for head in _longer_heads(row, size)
                    if _count_rows(head, size, fitting) > _count_rows(head, size, sure)]
        if len(doubtful) == 0:
            return None
        row = doubtful[0]
    return row


def _longer_heads(head, size):
    """The heads with one more item, in ascending order."""
    return [(*head, item) for item in range(size) if item not in head]


def _fitting_and_sure_words(size, tests, known, first):
    """The words that fit, and those of them that are covered or not needed, both as the keys of a dict.

    Each word stands there as the number that it is in binary notation.
    """
    order, most = checked(size, [tests], known, first)
    doubtful = {word: True for word in uncovered_words(order, tests, most)}
    words = order.words()
    fitting = {int(word, 2): True for word in words}
    return fitting, {int(word, 2): True for word in words if word not in doubtful}


def _count_rows(head, size, words):
    """The number of the rows with the integers from 0 on that begin with a head and have their words among some."""
    # The words of a row come one after another from the greatest item on, as
    # each item puts one more 1 into the word. For each word that can be reached
    # so far there is the number of the ways to it.
    ways = {0: 1}
    for item in range(size - 1, -1, -1):
        longer = {}
        for line in _lines_for(item, head, size):
            bit = 1 << (size - 1 - line)
            for word, many in ways.items():
                if word & bit == 0 and word + bit in words:
                    longer[word + bit] = longer.get(word + bit, 0) + many
        ways = longer
    return sum(ways.values())


def _lines_for(item, head, size):
    """The lines at which an item may stand in a row that begins with a head."""
    if item in head:
        return [head.index(item)]
    return list(range(len(head), size))
