"""The fewest tests that are enough, and needed words which show that no fewer are.

The words of one test are a chain, and each chain of words that fit is among the words of some test that fits. So tests
are enough exactly if their chains have all needed words, and the fewest tests are the fewest chains. These come of a
best matching: each word is linked with at most one word above it and with at most one below it, and the more links
there are, the fewer chains are left.
"""

from enoughtests.checking import checked, covered_words, uncovered_words
from enoughtests.orders import refuse_large
from enoughtests.words import is_list, is_word, may_be_needed

GREATEST_LINKED_SIZE = 9


def fewest(size, *, known=None, first=None):
    """A list of as few tests as possible that is enough."""
    return further(size, [], known=known, first=first)


def further(size, tests, *, known=None, first=None):
    """A list of as few tests as possible that is enough together with the tests."""
    order, words = _order_and_words(size, tests, known, first)
    after, before = _best_links(_words_above(words))
    starts = [at for at in range(len(words)) if before[at] is None]
    return [order.row_through([words[at] for at in _chain_from(start, after)]) for start in starts]


def bar(size, *, known=None, first=None):
    """As many needed words as fewest has tests, none of which is below another one."""
    return further_bar(size, [], known=known, first=first)


def further_bar(size, tests, *, known=None, first=None):
    """As many needed words that the tests do not cover as further has tests, none of which is below another one."""
    _, words = _order_and_words(size, tests, known, first)
    above = _words_above(words)
    after, before = _best_links(above)
    return [words[at] for at in _one_of_each_chain(above, after, before)]


def fewest_count(size, tests=(), *, known=None, first=None):
    """The number of the tests that further returns."""
    return len(further_bar(size, tests, known=known, first=first))


def is_bar(size, tests, value, *, known=None, first=None):
    """Whether any value is a list of needed words that are not covered and none of which is below another one."""
    order, most = checked(size, [tests], known, first)
    if not is_list(value) or not all([is_word(word, size) for word in value]):
        return False
    found = covered_words(tests, most)
    if not all([may_be_needed(word, most) and order.fits(word) and word not in found for word in value]):
        return False
    # Equal words are below each other, so this tells that all are different, too.
    return len([at for at, uppers in enumerate(_words_above(value)) if len(uppers) > 0]) == 0


def _order_and_words(size, tests, known, first):
    """The known order and the needed words that the tests do not cover, behind all checks."""
    order, most = checked(size, [tests], known, first)
    refuse_large(size, GREATEST_LINKED_SIZE)
    return order, uncovered_words(order, tests, most)


def _words_above(words):
    """For each word the indexes of those words, other than the one at its own index, that it is below."""
    numbers = [int(word, 2) for word in words]
    return [[at for at, upper in enumerate(numbers) if at != own and lower & upper == lower]
            for own, lower in enumerate(numbers)]


def _best_links(above):
    """For each word the next one of its chain and the one ahead of it, or None, with as many links as possible."""
    after = [None] * len(above)
    before = [None] * len(above)
    for start in range(len(above)):
        reached, end = _search([start], above, before)
        while end is not None:
            # Each word on the way is linked with the one that is reached from
            # it, and what it was linked with goes to the one ahead on the way.
            lower = reached[end]
            following = after[lower]
            after[lower], before[end] = end, lower
            end = following
    return after, before


def _search(starts, above, before):
    """From which word each other one is reached, up to the first one that is linked with none below it, and this one.

    From a word all words above it are reached, and from there the search goes on at the word that is linked with it.
    """
    reached = {}
    queue = list(starts)
    at = 0
    while at < len(queue):
        lower = queue[at]
        at = at + 1
        for upper in above[lower]:
            if upper not in reached:
                reached[upper] = lower
                if before[upper] is None:
                    return reached, upper
                queue.append(before[upper])
    return reached, None


def _chain_from(start, after):
    chain = []
    at = start
    while at is not None:
        chain.append(at)
        at = after[at]
    return chain


def _one_of_each_chain(above, after, before):
    """The indexes of one word of each chain, none of which is below another one."""
    # As no more links can be made, a search from the ends of all chains comes to
    # no word that is not linked with one below it. The words at which it starts
    # or goes on, apart from those that it reaches from below, are one of each
    # chain, and no such word is below another one, as it would reach that one.
    ends = [at for at in range(len(above)) if after[at] is None]
    reached, _ = _search(ends, above, before)
    visited = {at: True for at in ends + [before[upper] for upper in reached]}
    return [at for at in range(len(above)) if at in visited and at not in reached]
