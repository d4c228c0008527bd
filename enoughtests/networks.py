"""Networks: what compares and exchanges the values of fixed pairs of lines."""

from enoughtests.errors import InvalidLines, InvalidRow, InvalidSize, InvalidStep, InvalidSteps, InvalidText
from enoughtests.errors import NoStep, NotNetwork, TooLarge, UnlikeSizes
from enoughtests.words import GREATEST_SIZE, is_line, is_list, is_row_or_word, is_size, natural_in, naturals_in

# No size and no line has more digits.
MOST_DIGITS = 2


class Network:
    """A size and the steps that are made one after another."""

    def __init__(self, size, steps=()):
        if not is_size(size):
            raise InvalidSize(size)
        if not is_list(steps):
            raise InvalidSteps(steps)
        for item in steps:
            if not _is_step(item, size):
                raise InvalidStep(item)
        self.size = size
        self._steps = tuple(steps)

    def __len__(self):
        return len(self._steps)

    def __iter__(self):
        return iter(self._steps)

    def __eq__(self, other):
        return isinstance(other, Network) and self.size == other.size and self._steps == other._steps

    def __str__(self):
        return " ".join([f"{self.size}:", *[f"{i}-{j}" for i, j in self._steps]])

    def __call__(self, value):
        """What comes out for a row, as a tuple, or for a word, as a string."""
        items = self._checked_items(value)
        for step in self._steps:
            _make_step(items, step)
        return _in_kind_of(value, items)

    def trace(self, value):
        """The rows or the words ahead of the first step and behind each step."""
        items = self._checked_items(value)
        trace = [_in_kind_of(value, items)]
        for step in self._steps:
            _make_step(items, step)
            trace.append(_in_kind_of(value, items))
        return trace

    def _checked_items(self, value):
        """A new list of the items of a row or a word of this size."""
        if not is_row_or_word(value, self.size):
            raise InvalidRow(value)
        return list(value)

    def __mul__(self, other):
        require_network(other)
        require_like_sizes(self, other)
        return Network(self.size, [*self._steps, *other._steps])

    def __invert__(self):
        last = self.size - 1
        return Network(self.size, [(last - j, last - i) for i, j in self._steps])

    def beside(self, other):
        """The network whose first lines are those of this one and whose further lines are those of other."""
        require_network(other)
        size = self.size + other.size
        if size > GREATEST_SIZE:
            raise TooLarge(size)
        moved = [(self.size + i, self.size + j) for i, j in other._steps]
        return Network(size, [*self._steps, *moved])

    def on_lines(self, size, lines):
        """The network of a size in which line k of this one has become the line lines[k]."""
        if not is_size(size):
            raise InvalidSize(size)
        if not _are_ascending_lines(lines, size) or len(lines) != self.size:
            raise InvalidLines(lines)
        return Network(size, [(lines[i], lines[j]) for i, j in self._steps])

    def without(self, index):
        """The network that lacks the step with an index."""
        # The indexes of the steps are the lines of a size with as many lines.
        if not is_line(index, len(self._steps)):
            raise NoStep(index)
        return Network(self.size, [*self._steps[:index], *self._steps[index + 1:]])

    @classmethod
    def read(cls, text):
        """The network with a text."""
        if not isinstance(text, str):
            raise InvalidText(text)
        head, *words = text.split(" ")
        size = natural_in(head[:-1], MOST_DIGITS)
        steps = [naturals_in(word, MOST_DIGITS) for word in words]
        if not head.endswith(":") or not is_size(size) or not all([_is_step(step, size) for step in steps]):
            raise InvalidText(text)
        return cls(size, steps)


def _is_step(value, size):
    if not isinstance(value, tuple) or len(value) != 2:
        return False
    return is_line(value[0], size) and is_line(value[1], size) and value[0] < value[1]


def _are_ascending_lines(value, size):
    if not is_list(value) or not all([is_line(line, size) for line in value]):
        return False
    return all([value[at] < value[at + 1] for at in range(len(value) - 1)])


def _make_step(items, step):
    i, j = step
    if items[i] > items[j]:
        items[i], items[j] = items[j], items[i]


def _in_kind_of(value, items):
    """Items as a word, if the value is one, or else as a row."""
    return "".join(items) if isinstance(value, str) else tuple(items)


def require_network(value):
    """Raises NotNetwork for any value that is not a Network."""
    if not isinstance(value, Network):
        raise NotNetwork(value)


def require_like_sizes(one, other):
    """Raises UnlikeSizes for two networks of different sizes."""
    if one.size != other.size:
        raise UnlikeSizes((one.size, other.size))


def sorter(size):
    """A network of a size that sorts all rows."""
    if not is_size(size):
        raise InvalidSize(size)
    # The item of each line is put where it belongs among the items of the lines ahead, which are sorted.
    return Network(size, [(line - 1, line) for last in range(size) for line in range(last, 0, -1)])
