"""Benches, which keep networks, orders and lists of tests under names."""

from enoughtests.checking import checked, is_test
from enoughtests.covering import are_enough, passes
from enoughtests.errors import InvalidName, InvalidRow, InvalidSize, InvalidThing, NameTaken, NothingToUndo, TooLarge
from enoughtests.errors import UnknownName, WrongKind
from enoughtests.judging import sorts
from enoughtests.networks import Network
from enoughtests.orders import Order, refuse_large
from enoughtests.words import is_list, is_size

MOST_TESTS = 100
MOST_LETTERS = 8


def is_name(value):
    """Whether any value is a string that may name a thing."""
    if not isinstance(value, str) or not 1 <= len(value) <= MOST_LETTERS:
        return False
    return all(["a" <= letter <= "z" for letter in value])


class Bench:
    """What is kept for one size, with the deeds that have changed it."""

    def __init__(self, size):
        if not is_size(size):
            raise InvalidSize(size)
        self.size = size
        # No thing is ever changed: networks and orders never are, and a list of
        # tests is kept as a tuple of tuples.
        self._things = {}
        # For each deed that has not been taken back, what stood under its names
        # ahead of it, as pairs of a name and a thing, or None if there was none.
        self._replaced = []

    @property
    def deeds(self):
        """The number of the deeds that have not been taken back."""
        return len(self._replaced)

    def __len__(self):
        return len(self._things)

    def __contains__(self, value):
        return isinstance(value, str) and value in self._things

    def __getitem__(self, name):
        thing = self._thing(name)
        return list(thing) if isinstance(thing, tuple) else thing

    def __iter__(self):
        raise TypeError("a bench is not iterated over; its names are")

    def _thing(self, name):
        if name not in self:
            raise UnknownName(name)
        return self._things[name]

    def names(self):
        """The names of the things, in ascending order."""
        return sorted(self._things)

    def kind(self, name):
        """What kind of thing has a name: network, order or tests."""
        thing = self._thing(name)
        if isinstance(thing, Network):
            return "network"
        return "order" if isinstance(thing, Order) else "tests"

    def put(self, name, thing):
        """Keeps a thing under a new name."""
        self._require_new_name(name)
        if not self._is_thing(thing):
            raise InvalidThing(thing)
        kept = tuple([tuple(test) for test in thing]) if is_list(thing) else thing
        self._change([(name, kept)])

    def _require_new_name(self, name):
        if not is_name(name):
            raise InvalidName(name)
        if name in self:
            raise NameTaken(name)

    def _is_thing(self, value):
        if isinstance(value, Network) or isinstance(value, Order):
            return value.size == self.size
        if not is_list(value) or len(value) > MOST_TESTS:
            return False
        return all([is_test(item, self.size) for item in value])

    def add(self, name, item):
        """Puts a step behind those of a network, a pair into an order, or a test behind those of a list."""
        thing = self._thing(name)
        if isinstance(thing, Network):
            self._change([(name, Network(self.size, [*thing, item]))])
        elif isinstance(thing, Order):
            self._change([(name, Order(self.size, [*thing, item]))])
        else:
            self._change([(name, self._with_test(thing, item))])

    def _with_test(self, tests, item):
        if not is_test(item, self.size):
            raise InvalidRow(item)
        if len(tests) == MOST_TESTS:
            raise TooLarge(MOST_TESTS + 1)
        return (*tests, tuple(item))

    def drop(self, name):
        """Takes a thing away."""
        self._thing(name)
        self._change([(name, None)])

    def rename(self, name, other):
        """Gives a thing another name."""
        thing = self._thing(name)
        self._require_new_name(other)
        self._change([(name, None), (other, thing)])

    def _change(self, changes):
        """Does a deed, which is pairs of a name and the thing that it has then, or None."""
        self._replaced.append([(name, self._things.get(name)) for name, _ in changes])
        self._set_things(changes)

    def _set_things(self, changes):
        for name, thing in changes:
            if thing is None:
                del self._things[name]
            else:
                self._things[name] = thing

    def undo(self):
        """Takes the last deed back that has not been taken back."""
        if len(self._replaced) == 0:
            raise NothingToUndo()
        self._set_things(self._replaced.pop())

    def trial(self):
        """An object for one with block, behind which the bench has the things and deeds that it had ahead of it."""
        return Trial(self)

    def tried(self, act):
        """What a function returns that is called with the bench within such a block."""
        with self.trial():
            return act(self)

    def right(self, network, order=None, *, first=None):
        """Whether the network with a name is right where the order with a name is known."""
        asked = self._of_kind(network, "network")
        return sorts(asked, known=self._known(order), first=first)

    def enough(self, tests, order=None, *, first=None):
        """Whether the list of tests with a name is enough where the order with a name is known."""
        asked = self._of_kind(tests, "tests")
        return are_enough(self.size, asked, known=self._known(order), first=first)

    def passed(self, network, tests, *, first=None):
        """Whether the network with a name passes the list of tests with a name."""
        asked = self._of_kind(network, "network")
        return passes(asked, self._of_kind(tests, "tests"), first=first)

    def refuted(self, tests, order=None, *, first=None):
        """The names of the networks that pass the list of tests with a name and are not right, in ascending order."""
        asked = self._of_kind(tests, "tests")
        known, most = checked(self.size, [asked], self._known(order), first)
        refuse_large(self.size)
        passing = [name for name in self.names()
                   if self.kind(name) == "network" and passes(self[name], asked, first=most)]
        return [name for name in passing if not sorts(self[name], known=known, first=most)]

    def _of_kind(self, name, kind):
        """The thing with a name, which must be of a kind."""
        if self.kind(name) != kind:
            raise WrongKind(name)
        return self._thing(name)

    def _known(self, name):
        """The order with a name, or None for None."""
        return None if name is None else self._of_kind(name, "order")


class Trial:
    """What gives a bench the things and deeds back that it had when a with block began."""

    def __init__(self, bench):
        self._bench = bench
        self._things = {}
        self._replaced = []

    def __enter__(self):
        self._things = dict(self._bench._things)
        self._replaced = list(self._bench._replaced)

    def __exit__(self, kind, value, trace):
        bench = self._bench
        bench._things = self._things
        bench._replaced = self._replaced
