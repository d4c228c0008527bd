"""Near-sorters: networks that sort all words of a size but one."""

from enoughtests.errors import InvalidWord, SortedWord
from enoughtests.judging import failing_words
from enoughtests.networks import Network
from enoughtests.orders import refuse_large
from enoughtests.words import is_sorted, is_word, mirrored, zeros


def near_sorter(word):
    """A network of the size of a word that sorts all other words of this size, but not this one."""
    _require_unsorted(word)
    # A near-sorter of 10 has no steps. The characters behind the first 10 are put behind it.
    inner = word[word.index("10"):]
    mirror = ~Network(len(inner), _steps_of_growth(inner, 2))
    # To put a character ahead is to put one behind in the mirrored word.
    outer = Network(len(word), [*mirror, *_steps_of_growth(mirrored(word), len(inner))])
    return ~outer


def _steps_of_growth(word, size):
    """The steps that make a near-sorter of the first characters, as many as size, one of the whole word."""
    steps = []
    for last in range(size, len(word)):
        steps.extend(_steps_of_last_line(word[:last], word[last]))
    return steps


def _steps_of_last_line(word, letter):
    """The steps that make a near-sorter of a word one of the word with one more letter behind it."""
    # Each near-sorter that is made here brings out its word with 10 at the
    # lines place - 1 and place, where the sorted word has 01, and all else
    # as in the sorted word.
    last = len(word)
    place = zeros(word)
    insertion = [(line - 1, line) for line in range(last, 0, -1)]
    if letter == "0":
        # A last 1 stays, and the step at the 10 makes 01 of it. A last 0
        # comes down behind the 10, and that step makes 010 of 100.
        return insertion
    # A last 0 is exchanged for the 1 of the 10, which makes the word sorted.
    # A last 1 stays, and so does the 10, as no step compares its two lines.
    insertion.remove((place - 1, place))
    return [(place - 1, last), *insertion]


def is_near_sorter(network, word):
    """Whether any value is a near-sorter of a word."""
    _require_unsorted(word)
    refuse_large(len(word))
    if not isinstance(network, Network) or network.size != len(word):
        return False
    return failing_words(network) == [word]


def only_failing(network):
    """The word of which a network is a near-sorter, or None if there is none."""
    words = failing_words(network)
    return words[0] if len(words) == 1 else None


def _require_unsorted(word):
    """Raises InvalidWord for any value that is no word, and SortedWord for a sorted one."""
    if not is_word(word):
        raise InvalidWord(word)
    if is_sorted(word):
        raise SortedWord(word)
