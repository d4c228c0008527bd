"""Integers, words and rows."""

from enoughtests.errors import InvalidChain, InvalidRow, InvalidWord, UnlikeSizes

GREATEST_SIZE = 60


def is_integer(value):
    """Whether any value is an integer; True and False are none."""
    return isinstance(value, int) and not isinstance(value, bool)


def natural_in(text, most):
    """The number with a decimal notation of at most so many digits, or None if there is none."""
    if len(text) > most or not text.isdecimal():
        return None
    number = int(text)
    # This leaves out those with a leading zero.
    return number if str(number) == text else None


def naturals_in(text, most):
    """The two numbers that stand ahead of the first - and behind it, with None for what is none."""
    one, _, other = text.partition("-")
    return natural_in(one, most), natural_in(other, most)


def is_size(value):
    """Whether any value is a size."""
    return is_integer(value) and 1 <= value <= GREATEST_SIZE


def is_line(value, size):
    """Whether any value is a line of a size."""
    return is_integer(value) and 0 <= value < size


def is_list(value):
    """Whether any value may stand where a list is asked for."""
    return isinstance(value, (list, tuple))


def is_word(value, size=None):
    """Whether any value is a word, of this size if one is passed."""
    if not isinstance(value, str) or not _has_size(value, size):
        return False
    return value.count("0") + value.count("1") == len(value)


def is_row(value, size=None):
    """Whether any value is a row or a list with the items of one, of this size if one is passed."""
    if not is_list(value) or not _has_size(value, size):
        return False
    return all([is_integer(item) for item in value])


def _has_size(value, size):
    return is_size(len(value)) and (size is None or len(value) == size)


def is_row_or_word(value, size=None):
    """Whether any value is a row, a list with the items of one, or a word, of this size if one is passed."""
    return is_row(value, size) or is_word(value, size)


def is_sorted(value):
    """Whether no item of a row or a word is greater than the next one."""
    if not is_row_or_word(value):
        raise InvalidRow(value)
    return all([value[line] <= value[line + 1] for line in range(len(value) - 1)])


def may_be_needed(word, most):
    """Whether a word is not sorted and has at most so many zeros; it is needed if it fits as well."""
    # A word is not sorted exactly if a 1 stands right ahead of a 0.
    return "10" in word and word.count("0") <= most


def zeros(word):
    """The number of the characters 0 of a word."""
    if not is_word(word):
        raise InvalidWord(word)
    return word.count("0")


def below(one, other):
    """Whether no line has 1 in the one word and 0 in the other one."""
    for word in (one, other):
        if not is_word(word):
            raise InvalidWord(word)
    if len(one) != len(other):
        raise UnlikeSizes((len(one), len(other)))
    return all([one[line] <= other[line] for line in range(len(one))])


def mirrored(value):
    """A word or a row read from its last line, with 0 and 1 exchanged or the items negated."""
    if is_word(value):
        return value[::-1].translate({48: "1", 49: "0"})
    if is_row(value):
        return tuple([-item for item in value[::-1]])
    raise InvalidRow(value)


def words_of(row):
    """The words of a row, those with fewer characters 1 first."""
    if not is_row(row):
        raise InvalidRow(row)
    # The greatest level comes first, as it is reached at the fewest lines.
    levels = sorted(set(row))[:0:-1]
    return ["".join(["1" if item >= level else "0" for item in row]) for level in levels]


def is_chain(value, size=None):
    """Whether any value is a list, which may be empty, that is a chain, of words of this size if one is passed."""
    if not is_list(value) or not all([is_word(word, size) for word in value]):
        return False
    return all([_may_stand_ahead(value[at], value[at + 1]) for at in range(len(value) - 1)])


def _may_stand_ahead(one, other):
    return len(one) == len(other) and one != other and below(one, other)


def count_ones(words, line):
    """The number of the words that have 1 at a line."""
    return [word[line] for word in words].count("1")


def row_of(words):
    """The row that has, at each line, the number of the words of a chain with 1 at this line."""
    if not is_chain(words) or len(words) == 0:
        raise InvalidChain(words)
    return tuple([count_ones(words, line) for line in range(len(words[0]))])
