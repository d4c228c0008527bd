"""Known orders: what is known of the inputs beforehand."""

from enoughtests.errors import InvalidChain, InvalidFirst, InvalidPair, InvalidPairs, InvalidRow
from enoughtests.errors import InvalidSize, InvalidSizes, NotFitting, NotOrder, Ring, TooLarge, UnlikeSizes
from enoughtests.words import GREATEST_SIZE, count_ones, is_chain, is_integer, is_line, is_list, is_row_or_word
from enoughtests.words import is_size, may_be_needed

GREATEST_SEARCHED_SIZE = 10


class Order:
    """The known order of a size with some pairs and all that follow from them."""

    def __init__(self, size, pairs=()):
        if not is_size(size):
            raise InvalidSize(size)
        if not is_list(pairs):
            raise InvalidPairs(pairs)
        for item in pairs:
            if not _is_pair(item, size):
                raise InvalidPair(item)
        above = _lines_above(size, pairs)
        ring = [line for line in range(size) if _has_line(above[line], line)]
        if len(ring) > 0:
            raise Ring(ring)
        self.size = size
        self.pairs = tuple([(a, b) for a in range(size) for b in range(size) if _has_line(above[a], b)])
        self._above = above

    def __len__(self):
        return len(self.pairs)

    def __contains__(self, value):
        # Without the first test, a tuple with True or False would equal a pair.
        return _is_pair(value, self.size) and value in self.pairs

    def __iter__(self):
        return iter(self.pairs)

    def __eq__(self, other):
        return isinstance(other, Order) and self.size == other.size and self.pairs == other.pairs

    def __or__(self, other):
        if not isinstance(other, Order):
            raise NotOrder(other)
        if self.size != other.size:
            raise UnlikeSizes((self.size, other.size))
        return Order(self.size, [*self.pairs, *other.pairs])

    def __invert__(self):
        last = self.size - 1
        return Order(self.size, [(last - b, last - a) for a, b in self.pairs])

    def fits(self, value):
        """Whether a row or a word of this size fits."""
        if not is_row_or_word(value, self.size):
            raise InvalidRow(value)
        return self._has_in_order(value)

    def _has_in_order(self, value):
        return all([value[a] <= value[b] for a, b in self.pairs])

    def words(self):
        """The list of all words that fit, in ascending order."""
        refuse_large(self.size)
        words = [f"{number:b}".zfill(self.size) for number in range(1 << self.size)]
        return [word for word in words if self._has_in_order(word)]

    def word_count(self):
        """The number of the words that fit."""
        return len(self.words())

    def rows(self):
        """Goes through the rows that fit and have the integers from 0 on as their items, in ascending order."""
        refuse_large(self.size)
        # Each head is one that some fitting row begins with, so no time is spent on dead ends.
        heads = [()]
        while len(heads) > 0:
            head = heads.pop()
            if len(head) == self.size:
                yield head
            else:
                heads.extend(self._longer_heads(head)[::-1])

    def _longer_heads(self, head):
        """The heads with one more item that some fitting row begins with, in ascending order."""
        least, most = self._limits(head, len(head))
        longer = [(*head, item) for item in range(least, most + 1) if item not in head]
        return [begun for begun in longer if self._can_go_on(begun)]

    def _limits(self, head, line):
        """The least and the greatest item that the first items of a row leave to a line behind them."""
        lower = [head[a] for a in range(len(head)) if _has_line(self._above[a], line)]
        upper = [head[b] for b in range(len(head)) if _has_line(self._above[line], b)]
        return max(lower, default=-1) + 1, min(upper, default=self.size) - 1

    def _can_go_on(self, head):
        """Whether some row that fits begins with a head that has each of its own pairs in order."""
        # It is enough that each line behind the head gets an item within its
        # limits. Both limits of the lower line of a pair are at most those of
        # the upper one, so two items that stand the wrong way round can be
        # exchanged.
        free = [item for item in range(self.size) if item not in head]
        limits = [self._limits(head, line) for line in range(len(head), self.size)]
        # The least item for the line that must stay lowest is never a bad
        # choice: another line that has it could take the other one's instead.
        for least, most in sorted(limits, key=lambda pair: pair[1]):
            fitting = [item for item in free if least <= item <= most]
            if len(fitting) == 0:
                return False
            free.remove(fitting[0])
        return True

    def row_count(self):
        """The number of the rows that rows() goes through."""
        refuse_large(self.size)
        # For each set of lines, as the bits of a number, the number of the ways to order these lines alone.
        ways = [1]
        for lines in range(1, 1 << self.size):
            ways.append(sum([ways[lines - (1 << last)] for last in self._possible_last(lines)]))
        return ways[-1]

    def _possible_last(self, lines):
        """Those of some lines above which there is no other one of them."""
        return [line for line in range(self.size) if _has_line(lines, line) and (self._above[line] & lines) == 0]

    def row_through(self, words):
        """A row as in rows() whose words include all words of a chain that have both characters."""
        if not is_chain(words, self.size):
            raise InvalidChain(words)
        for word in words:
            if not self._has_in_order(word):
                raise NotFitting(word)
        # Of two lines of a pair, the upper one has more lines below it, so it comes later.
        lines = sorted(range(self.size), key=lambda line: (count_ones(words, line), self._count_below(line)))
        return tuple([lines.index(line) for line in range(self.size)])

    def _count_below(self, line):
        return len([a for a in range(self.size) if _has_line(self._above[a], line)])


def _is_pair(value, size):
    if not isinstance(value, tuple) or len(value) != 2:
        return False
    return is_line(value[0], size) and is_line(value[1], size) and value[0] != value[1]


def _has_line(lines, line):
    """Whether a line is among the lines that are the bits of a number."""
    return (lines >> line) & 1 == 1


def _lines_above(size, pairs):
    """For each line the lines that can be reached from it by one or more pairs, as the bits of a number."""
    above = [0] * size
    for a, b in pairs:
        above[a] = above[a] | (1 << b)
    for middle in range(size):
        for line in range(size):
            if _has_line(above[line], middle):
                above[line] = above[line] | above[middle]
    return above


def refuse_large(size, greatest=GREATEST_SEARCHED_SIZE):
    """Raises TooLarge for a size at which there is too much to search."""
    if size > greatest:
        raise TooLarge(size)


def checked_known(known, size):
    """The known order of a size, which has no pairs where known is None."""
    if known is None:
        return Order(size)
    if not isinstance(known, Order):
        raise NotOrder(known)
    if known.size != size:
        raise UnlikeSizes((size, known.size))
    return known


def checked_first(first, size):
    """The number of the first items that are asked for, which is the size where first is None."""
    if first is None:
        return size
    if not is_integer(first) or not 1 <= first <= size:
        raise InvalidFirst(first)
    return first


def chains(sizes):
    """The order in which the lines, from line 0 on, stand in sorted parts of these sizes."""
    if not _are_sizes_of_parts(sizes):
        raise InvalidSizes(sizes)
    pairs = []
    start = 0
    for size in sizes:
        end = start + size
        pairs.extend([(a, b) for a in range(start, end) for b in range(a + 1, end)])
        start = end
    return Order(start, pairs)


def _are_sizes_of_parts(value):
    if not is_list(value) or len(value) == 0:
        return False
    if not all([is_integer(size) and size >= 1 for size in value]):
        return False
    return sum(value) <= GREATEST_SIZE


def needed(order, *, first=None):
    """The needed words of an order, in ascending order: they fit, are not sorted and have at most first zeros."""
    if not isinstance(order, Order):
        raise NotOrder(order)
    most = checked_first(first, order.size)
    return [word for word in order.words() if may_be_needed(word, most)]
