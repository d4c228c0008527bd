"""Whether networks are right, and for which words and rows they do not work."""

from enoughtests.errors import InvalidRow
from enoughtests.networks import require_network
from enoughtests.orders import checked_first, checked_known
from enoughtests.words import is_row_or_word


def works(network, value, *, first=None):
    """Whether the first items that come out for a row or a word are its least ones in ascending order."""
    require_network(network)
    if not is_row_or_word(value, network.size):
        raise InvalidRow(value)
    return _works_for(network, value, checked_first(first, network.size))


def _works_for(network, value, most):
    return list(network(value))[:most] == sorted(value)[:most]


def sorts(network, *, known=None, first=None):
    """Whether a network is right: it works for all rows that fit."""
    # It works for a row exactly if it works for each of its words.
    return failing_word(network, known=known, first=first) is None


def failing_words(network, *, known=None, first=None):
    """The words that fit and for which the network does not work, in ascending order."""
    order, most = _checked(network, known, first)
    return [word for word in order.words() if not _works_for(network, word, most)]


def failing_word(network, *, known=None, first=None):
    """The first word that fits and for which the network does not work, or None if there is none."""
    order, most = _checked(network, known, first)
    for word in order.words():
        if not _works_for(network, word, most):
            return word
    return None


def failing_row(network, *, known=None, first=None):
    """A row with the integers from 0 on that fits and for which the network does not work, or None."""
    order, most = _checked(network, known, first)
    word = failing_word(network, known=order, first=most)
    return None if word is None else order.row_through([word])


def is_failing(network, value, *, known=None, first=None):
    """Whether any value is a row or a word of the network that fits and for which it does not work."""
    order, most = _checked(network, known, first)
    if not is_row_or_word(value, network.size):
        return False
    return order.fits(value) and not _works_for(network, value, most)


def _checked(network, known, first):
    """The known order and the number of the first items, for a network, behind the checks of all three."""
    require_network(network)
    order = checked_known(known, network.size)
    return order, checked_first(first, network.size)
