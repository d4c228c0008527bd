"""Families of tests that are enough for every size, and what merges need.

Where nothing is known of the inputs, the words of a size fall into chains of words of the same shape, and one test has
all words of a chain. The shapes are in ascending order as Python compares strings, in which ( comes ahead of ), and
both ahead of a dot.
"""

from math import comb

from enoughtests.errors import InvalidNumber, InvalidShape, InvalidSize, InvalidWord, SortedWord, TooLarge
from enoughtests.orders import chains, checked_first
from enoughtests.words import GREATEST_SIZE, is_integer, is_line, is_size, is_sorted, is_word


def needed_count(size, *, first=None):
    """The number of the needed words of a size."""
    most = _checked_number(size, first)
    # For each number of zeros there is one sorted word.
    return sum([comb(size, zeros) - 1 for zeros in range(most + 1)])


def family_count(size, *, first=None):
    """The least number of tests of a size that are enough."""
    # All shapes but the one with dots only.
    return _count_shapes("", size, _checked_number(size, first)) - 1


def _checked_number(size, first):
    """The number of the first items, behind the checks of a size and of this number."""
    if not is_size(size):
        raise InvalidSize(size)
    return checked_first(first, size)


def _count_shapes(head, size, most):
    """The number of the shapes of a size with at most so many pairs that begin with the head of some shape."""
    begun = head.count("(")
    pending = begun - head.count(")")
    rest = size - len(head)
    if begun > most or pending > rest:
        return 0
    # With a number k of further pairs, what follows comes of the words of so
    # many lines that have k pairs and as many unpaired zeros as brackets are
    # pending. There is one such word for each shape with k pairs in which that
    # many lines are not paired, and comb(rest, k) - comb(rest, k - 1) shapes
    # have k pairs. Summed up over k, only the last of these numbers is left.
    return comb(rest, min(most - begun, (rest - pending) // 2))


def shape_of(word):
    """The shape of a word: ( and ) for each 1 and the 0 that it is paired with, and dots for the others."""
    if not is_word(word):
        raise InvalidWord(word)
    signs = ["."] * len(word)
    waiting = []
    for line, letter in enumerate(word):
        if letter == "1":
            waiting.append(line)
        elif len(waiting) > 0:
            signs[waiting.pop()] = "("
            signs[line] = ")"
    return "".join(signs)


def _require_shape(value):
    """Raises InvalidShape for any value that is not the shape of a word."""
    # A shape is that of the word with 0 for its dots, as none of them is behind a 1 that is not paired.
    word = value.translate({40: "1", 41: "0", 46: "0"}) if isinstance(value, str) else value
    if not is_word(word) or shape_of(word) != value:
        raise InvalidShape(value)


def row_of_shape(shape):
    """The row with the least items at the lines with ), greater ones at dots, and the greatest ones at (."""
    _require_shape(shape)
    lines = [line for sign in ").(" for line in range(len(shape)) if shape[line] == sign]
    return tuple([lines.index(line) for line in range(len(shape))])


def test_of(word):
    """The row of the shape of a word."""
    shape = shape_of(word)
    if is_sorted(word):
        raise SortedWord(word)
    return row_of_shape(shape)


def family(size, *, first=None):
    """Goes through the rows of the shapes of the family, in the order of the shapes."""
    for number in range(family_count(size, first=first)):
        yield row_of_shape(nth_shape(size, number, first=first))


def nth_shape(size, number, *, first=None):
    """The shape of the family with an index."""
    most = _checked_number(size, first)
    # The shape with dots only, which is not in the family, comes last of all.
    if not is_line(number, _count_shapes("", size, most) - 1):
        raise InvalidNumber(number)
    head = ""
    while len(head) < size:
        # Of the two signs that may follow, ( is the lesser one.
        many = _count_shapes(head + "(", size, most)
        if number < many:
            head = head + "("
        else:
            number = number - many
            head = head + (")" if head.count("(") > head.count(")") else ".")
    return head


def shape_number(shape, *, first=None):
    """The index of a shape in its family."""
    _require_shape(shape)
    size = len(shape)
    most = checked_first(first, size)
    pairs = shape.count("(")
    if not 1 <= pairs <= most:
        raise InvalidNumber(pairs)
    # A lesser shape has ( at the first line at which the two differ.
    lesser = [shape[:line] + "(" for line in range(size) if shape[line] != "("]
    return sum([_count_shapes(head, size, most) for head in lesser])


def merge_needed(one, other):
    """The number of the needed words where two sorted parts of these sizes are known."""
    _check_parts(one, other)
    return one * other


def merge_tests(one, other):
    """As few tests as possible that are enough where two sorted parts of these sizes are known."""
    _check_parts(one, other)
    # A needed word has some 1 in the first part and some 0 in the second part.
    # The words with the same part on the side with fewer lines are a chain.
    heads = ["0" * (one - ones) + "1" * ones for ones in range(1, one + 1)]
    tails = ["0" * (other - ones) + "1" * ones for ones in range(other)]
    if one <= other:
        parted = [[head + tail for tail in tails] for head in heads]
    else:
        parted = [[head + tail for head in heads] for tail in tails]
    order = chains([one, other])
    return [order.row_through(words) for words in parted]


def _check_parts(one, other):
    """Raises InvalidSize for what is not the size of a part, and TooLarge for two parts with too many lines."""
    for size in (one, other):
        if not is_integer(size) or size < 1:
            raise InvalidSize(size)
    if one + other > GREATEST_SIZE:
        raise TooLarge(one + other)
