"""What comes out of networks for all rows that fit.

All rows are judged by their words: the words of what comes out for a row are what comes out for its words, and each
chain of words that fit is among the words of some row that fits.
"""

from enoughtests.errors import InvalidLine, InvalidRank
from enoughtests.networks import require_like_sizes, require_network
from enoughtests.orders import Order, checked_known
from enoughtests.words import is_line


def never_above(network, one, other, *, known=None):
    """Whether the value that comes out at line one is at most that at line other, for all rows that fit."""
    _check_lines(network, [one, other])
    order = checked_known(known, network.size)
    return _never_above_in(_words_out(network, order), one, other)


def out_order(network, *, known=None):
    """The order that is known of the rows that come out."""
    require_network(network)
    words = _words_out(network, checked_known(known, network.size))
    lines = range(network.size)
    pairs = [(a, b) for a in lines for b in lines if a != b and _never_above_in(words, a, b)]
    return Order(network.size, pairs)


def _words_out(network, order):
    return [network(word) for word in order.words()]


def _never_above_in(words, one, other):
    return all([word[one] <= word[other] for word in words])


def ranks(network, line, *, known=None):
    """The integers that come out at a line, in ascending order, for rows that have the integers from 0 on."""
    _check_lines(network, [line])
    turns = _turns(network, line, checked_known(known, network.size))
    return sorted({turn[0] for turn in turns})


def rank_row(network, line, rank, *, known=None):
    """A row with the integers from 0 on for which the integer rank comes out at a line, or None."""
    _check_lines(network, [line])
    # The integers in such rows are those that number the lines.
    if not is_line(rank, network.size):
        raise InvalidRank(rank)
    order = checked_known(known, network.size)
    for found, _, words in _turns(network, line, order):
        if found == rank:
            return order.row_through(words)
    return None


def sources(network, line, *, known=None):
    """The lines whose item comes out at a line for some row, in ascending order."""
    _check_lines(network, [line])
    turns = _turns(network, line, checked_known(known, network.size))
    return sorted({turn[1] for turn in turns})


def source_row(network, line, source, *, known=None):
    """A row with the integers from 0 on for which the item of the line source comes out at a line, or None."""
    _check_lines(network, [line, source])
    order = checked_known(known, network.size)
    for _, found, words in _turns(network, line, order):
        if found == source:
            return order.row_through(words)
    return None


def _check_lines(network, lines):
    """Raises NotNetwork, or InvalidLine with the first one that is not a line of the network."""
    require_network(network)
    for line in lines:
        if not is_line(line, network.size):
            raise InvalidLine(line)


def _turns(network, line, order):
    """Each way in which an item comes out at a line, as its rank, its source and a chain of two words."""
    # An item comes out at a line exactly if 0 comes out there for the word
    # with 1 for the greater items, and 1 for the word with 1 for the item as
    # well. These words differ at the source alone, and the 0 of the latter
    # stand for the lesser items.
    shown = {word: network(word)[line] for word in order.words()}
    turns = []
    for word in shown:
        for source in range(network.size):
            lower = word[:source] + "0" + word[source + 1:]
            if lower in shown and shown[lower] < shown[word]:
                turns.append((word.count("0"), source, [lower, word]))
    return turns


def alike(one, other, *, known=None):
    """Whether the same comes out of two networks for all rows that fit."""
    return parting_row(one, other, known=known) is None


def parting_row(one, other, *, known=None):
    """A row with the integers from 0 on for which something else comes out of the one than of the other, or None."""
    require_network(one)
    require_network(other)
    require_like_sizes(one, other)
    order = checked_known(known, one.size)
    for word in order.words():
        if one(word) != other(word):
            return order.row_through([word])
    return None


def idle_steps(network, *, known=None):
    """The indexes of the steps that exchange values for no row that fits, in ascending order."""
    require_network(network)
    busy = {}
    for word in checked_known(known, network.size).words():
        trace = network.trace(word)
        for index in range(len(network)):
            if trace[index] != trace[index + 1]:
                busy[index] = True
    return [index for index in range(len(network)) if index not in busy]
