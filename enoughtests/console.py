"""Consoles, which execute lines of text on a bench."""

from enoughtests.bench import is_name
from enoughtests.errors import InvalidLineOfText, NameTaken, SorterError, WrongKind
from enoughtests.networks import Network
from enoughtests.orders import Order
from enoughtests.words import is_list, natural_in, naturals_in

MOST_DIGITS = 30
NOTHING_KNOWN = "none"


class Console:
    """What executes lines on a bench."""

    def __init__(self, bench):
        self._bench = bench

    def __call__(self, line):
        """Executes a line and returns its answer."""
        return _answer(self._bench, line)

    def run(self, lines):
        """Executes lines one after another and returns the list of the answers."""
        if not is_list(lines):
            raise InvalidLineOfText(lines)
        answers = []
        for line in lines:
            answers.append(_answer(self._bench, line))
        return answers


def _answer(bench, line):
    word, values = _read_line(line)
    action = ACTIONS[word]
    try:
        return action(bench, *values)
    except SorterError as error:
        return "! " + error.__class__.__name__


def _read_line(line):
    """The first word of a line and the list of what the other words stand for."""
    if not isinstance(line, str):
        raise InvalidLineOfText(line)
    head, *words = line.split(" ")
    if head not in FORMS:
        raise InvalidLineOfText(line)
    least, kinds, may_go_on = FORMS[head]
    if len(words) < least or (len(words) > len(kinds) and not may_go_on):
        raise InvalidLineOfText(line)
    last = len(kinds) - 1
    values = [_read_word(kinds[min(at, last)], word) for at, word in enumerate(words)]
    if any([value is None for value in values]):
        raise InvalidLineOfText(line)
    return head, values


def _read_word(kind, word):
    """What a word stands for, or None if it is not of a kind."""
    if kind == "NAME":
        return word if is_name(word) else None
    if kind == "N":
        return _read_number(word)
    one, other = naturals_in(word, MOST_DIGITS)
    return None if one is None or other is None else (one, other)


def _read_number(word):
    number = natural_in(word.removeprefix("-"), MOST_DIGITS)
    if number is None or word == "-0":
        return None
    return -number if word.startswith("-") else number


# For each first word the least number of the words behind it, their kinds, and
# whether more words of the last kind may follow.
FORMS = {
    "network": (1, ("NAME", "N-N"), True),
    "order": (1, ("NAME", "N-N"), True),
    "tests": (1, ("NAME",), False),
    "step": (2, ("NAME", "N-N"), False),
    "pair": (2, ("NAME", "N-N"), False),
    "test": (2, ("NAME", "N"), True),
    "drop": (1, ("NAME",), False),
    "rename": (2, ("NAME", "NAME"), False),
    "undo": (0, (), False),
    "names": (0, (), False),
    "show": (1, ("NAME",), False),
    "run": (2, ("NAME", "N"), True),
    "right": (1, ("NAME", "NAME", "N"), False),
    "enough": (1, ("NAME", "NAME", "N"), False),
    "passed": (2, ("NAME", "NAME", "N"), False),
}


def _put_network(bench, name, *steps):
    _refuse_taken(bench, name)
    bench.put(name, Network(bench.size, steps))
    return "ok"


def _put_order(bench, name, *pairs):
    _refuse_taken(bench, name)
    bench.put(name, Order(bench.size, pairs))
    return "ok"


def _put_tests(bench, name):
    bench.put(name, [])
    return "ok"


def _refuse_taken(bench, name):
    # The bench would tell this only behind what is wrong with the steps or the pairs.
    if name in bench:
        raise NameTaken(name)


def _add_step(bench, name, step):
    _require_kind(bench, name, "network")
    bench.add(name, step)
    return "ok"


def _add_pair(bench, name, pair):
    _require_kind(bench, name, "order")
    bench.add(name, pair)
    return "ok"


def _add_test(bench, name, *items):
    _require_kind(bench, name, "tests")
    bench.add(name, items)
    return "ok"


def _require_kind(bench, name, kind):
    """Raises UnknownName or WrongKind for a name that is not that of a thing of a kind."""
    if bench.kind(name) != kind:
        raise WrongKind(name)


def _drop(bench, name):
    bench.drop(name)
    return "ok"


def _rename(bench, name, other):
    bench.rename(name, other)
    return "ok"


def _undo(bench):
    bench.undo()
    return "ok"


def _list_names(bench):
    return " ".join(bench.names()) if len(bench) > 0 else "-"


def _show(bench, name):
    kind = bench.kind(name)
    if kind == "network":
        return str(bench[name])
    if len(bench[name]) == 0:
        return "-"
    if kind == "order":
        return " ".join([f"{a}-{b}" for a, b in bench[name]])
    return ", ".join([_text_of_row(test) for test in bench[name]])


def _text_of_row(row):
    return " ".join([str(item) for item in row])


def _run_network(bench, name, *items):
    _require_kind(bench, name, "network")
    network = bench[name]
    return _text_of_row(network(items))


def _ask_right(bench, name, order=NOTHING_KNOWN, first=None):
    return _text_of_truth(bench.right(name, _known_name(order), first=first))


def _ask_enough(bench, name, order=NOTHING_KNOWN, first=None):
    return _text_of_truth(bench.enough(name, _known_name(order), first=first))


def _ask_passed(bench, name, tests, first=None):
    return _text_of_truth(bench.passed(name, tests, first=first))


def _known_name(order):
    return None if order == NOTHING_KNOWN else order


def _text_of_truth(value):
    return "yes" if value else "no"


ACTIONS = {
    "network": _put_network,
    "order": _put_order,
    "tests": _put_tests,
    "step": _add_step,
    "pair": _add_pair,
    "test": _add_test,
    "drop": _drop,
    "rename": _rename,
    "undo": _undo,
    "names": _list_names,
    "show": _show,
    "run": _run_network,
    "right": _ask_right,
    "enough": _ask_enough,
    "passed": _ask_passed,
}
