import unittest

from enoughtests.bench import Bench
from enoughtests.console import Console
from enoughtests.networks import Network, sorter
from enoughtests.orders import Order

from helping import ProgramTest, wrong_values


class Examples(unittest.TestCase):
    def test_examples_of_the_interface(self):
        console = Console(Bench(3))
        self.assertEqual(
            console.run(["network net 0-2 0-1", "tests few", "test few 2 1 0", "passed net few", "right net",
                         "enough few", "run net 0 2 1"]),
            ["ok", "ok", "ok", "yes", "no", "no", "0 2 1"])
        self.assertEqual(
            console.run(["show net", "show few", "order know 1-2", "right net know", "right net none 1",
                         "step few 0-1", "undo", "names"]),
            ["3: 0-2 0-1", "2 1 0", "ok", "yes", "yes", "! WrongKind", "ok", "few net"])


class ConsoleTest(ProgramTest):
    def setUp(self):
        self.bench = Bench(3)
        self.console = Console(self.bench)

    def fill(self):
        """Puts a thing of each kind on the bench."""
        self.bench.put("net", Network(3, [(0, 2), (0, 1)]))
        self.bench.put("know", Order(3, [(1, 2)]))
        self.bench.put("few", [(2, 0, 1), (10, 20, -30)])

    def state(self):
        bench = self.bench
        return [(name, bench.kind(name), bench[name]) for name in bench.names()], bench.deeds

    def check(self, line, answer):
        """A line that changes nothing is answered in this way."""
        ahead = self.state()
        with self.subTest(line):
            self.assertEqual(self.console(line), answer)
            self.assertEqual(self.state(), ahead)

    def check_deed(self, line, name, thing):
        """A line is a deed behind which a thing has a name."""
        deeds = self.bench.deeds
        with self.subTest(line):
            self.assertEqual(self.console(line), "ok")
            self.assertEqual(self.bench[name], thing)
            self.assertEqual(self.bench.deeds, deeds + 1)

    def check_wrong(self, value):
        """A value is no right line, and nothing changes."""
        ahead = self.state()
        with self.subTest(value=value):
            self.assert_raises("InvalidLineOfText", value, self.console, value)
            self.assert_raises("InvalidLineOfText", value, self.console.run, [value])
            self.assertEqual(self.state(), ahead)


class Deeds(ConsoleTest):
    def test_the_bench_is_the_very_object(self):
        self.assertEqual(self.console("tests few"), "ok")
        self.assertEqual(self.bench.names(), ["few"])
        self.bench.put("net", Network(3))
        self.assertEqual(self.console(line="names"), "few net")
        self.assertEqual(Console(bench=self.bench)("undo"), "ok")
        self.assertEqual(self.bench.names(), ["few"])

    def test_network(self):
        self.check_deed("network net", "net", Network(3))
        self.check_deed("network a 0-1", "a", Network(3, [(0, 1)]))
        self.check_deed("network abcdefgh 0-2 1-2 0-1 0-1", "abcdefgh", Network(3, [(0, 2), (1, 2), (0, 1), (0, 1)]))
        self.check_deed("network none", "none", Network(3))
        self.check_deed("network network", "network", Network(3))

    def test_order(self):
        self.check_deed("order nil", "nil", Order(3))
        self.check_deed("order know 2-0", "know", Order(3, [(2, 0)]))
        self.check_deed("order more 2-0 0-1", "more", Order(3, [(2, 0), (2, 1), (0, 1)]))
        self.check_deed("order none 1-0", "none", Order(3, [(1, 0)]))

    def test_tests(self):
        self.check_deed("tests few", "few", [])
        self.check_deed("tests tests", "tests", [])

    def test_step_pair_and_test(self):
        self.fill()
        self.check_deed("step net 1-2", "net", Network(3, [(0, 2), (0, 1), (1, 2)]))
        self.check_deed("pair know 0-1", "know", Order(3, [(0, 1), (1, 2)]))
        self.check_deed("pair know 0-2", "know", Order(3, [(0, 1), (1, 2)]))
        self.check_deed("test few 0 -5 7", "few", [(2, 0, 1), (10, 20, -30), (0, -5, 7)])
        great = "9" * 30
        self.check_deed(f"test few -{great} {great} 0", "few",
                        [(2, 0, 1), (10, 20, -30), (0, -5, 7), (-int(great), int(great), 0)])

    def test_drop_rename_and_undo(self):
        self.fill()
        self.check_deed("rename net other", "other", Network(3, [(0, 2), (0, 1)]))
        self.assertEqual(self.console("drop other"), "ok")
        self.assertEqual((self.bench.names(), self.bench.deeds), (["few", "know"], 5))
        self.assertEqual(self.console("undo"), "ok")
        self.assertEqual((self.bench.names(), self.bench.deeds), (["few", "know", "other"], 4))
        self.assertEqual(self.console.run(["undo", "undo"]), ["ok", "ok"])
        self.assertEqual((self.bench.names(), self.bench.deeds), (["know", "net"], 2))


class Questions(ConsoleTest):
    def test_names(self):
        self.check("names", "-")
        self.fill()
        self.check("names", "few know net")
        self.bench.drop("know")
        self.bench.drop("few")
        self.check("names", "net")

    def test_show(self):
        self.fill()
        self.check("show net", "3: 0-2 0-1")
        self.check("show know", "1-2")
        self.check("show few", "2 0 1, 10 20 -30")
        for name, thing, text in [
                ("a", Network(3), "3:"), ("b", Order(3), "-"), ("c", [], "-"), ("d", [[5, 4, 3]], "5 4 3"),
                ("e", Order(3, [(2, 1), (1, 0)]), "1-0 2-0 2-1"),
                ("f", [(0, 1, 2), (2, 1, 0), (0, 1, 2)], "0 1 2, 2 1 0, 0 1 2"),
                ("g", [(10 ** 29, 0, -10 ** 29)], f"{10 ** 29} 0 -{10 ** 29}")]:
            self.bench.put(name, thing)
            self.check(f"show {name}", text)

    def test_run(self):
        self.fill()
        self.check("run net 2 1 0", "0 1 2")
        self.check("run net 0 2 1", "0 2 1")
        self.check("run net 5 5 -5", "-5 5 5")
        self.check("run net 0 0 0", "0 0 0")
        self.check(f"run net {'9' * 30} 7 -{'9' * 30}", f"-{'9' * 30} 7 {'9' * 30}")

    def test_right(self):
        self.fill()
        self.bench.put("sort", sorter(3))
        self.bench.put("none", Order(3, [(1, 2)]))
        for line, answer in [
                ("right net", "no"), ("right net know", "yes"), ("right net none", "no"), ("right net none 1", "yes"),
                ("right net none 2", "no"), ("right net none 3", "no"), ("right net know 3", "yes"),
                ("right sort", "yes"), ("right sort none", "yes"), ("right sort know 1", "yes")]:
            self.check(line, answer)

    def test_enough(self):
        self.fill()
        for name, tests in [("two", [(2, 0, 1), (1, 2, 0)]), ("one", [(1, 2, 0)]), ("least", [(1, 2, 0), (1, 0, 2)])]:
            self.bench.put(name, tests)
        self.bench.put("head", Order(3, [(0, 1)]))
        for line, answer in [
                ("enough few", "yes"), ("enough two", "yes"), ("enough two none", "yes"), ("enough one", "no"),
                ("enough one head", "yes"), ("enough one head 1", "yes"), ("enough one none", "no"),
                ("enough least", "no"), ("enough least none 1", "yes"), ("enough least none 2", "no"),
                ("enough one none 1", "no"), ("enough one head 3", "yes")]:
            self.check(line, answer)

    def test_passed(self):
        self.fill()
        for name, tests in [("down", [(2, 1, 0)]), ("mid", [(0, 2, 1)]), ("nil", [])]:
            self.bench.put(name, tests)
        for line, answer in [
                ("passed net down", "yes"), ("passed net mid", "no"), ("passed net mid 1", "yes"),
                ("passed net mid 2", "no"), ("passed net mid 3", "no"), ("passed net nil", "yes"),
                ("passed net nil 3", "yes"), ("passed net few", "no")]:
            self.check(line, answer)

    def test_none_always_means_that_nothing_is_known(self):
        self.fill()
        self.check("right net none", "no")
        self.bench.rename("net", "none")
        self.check("right none none", "no")
        self.check("right none none 1", "yes")
        self.check("right none know", "yes")
        self.check("enough few none", "yes")
        self.check("passed none few", "no")
        self.check_wrong("passed none few none")
        self.check("show none", "3: 0-2 0-1")


class Exceptions(ConsoleTest):
    def test_unknown_names(self):
        self.fill()
        for line in ["step gone 0-1", "pair gone 0-1", "test gone 2 1 0", "drop gone", "rename gone new", "show gone",
                     "run gone 2 1 0", "right gone", "right net gone", "enough gone", "enough few gone",
                     "passed gone few", "passed net gone", "step gone 9-9", "test gone 1", "run gone 1",
                     "rename gone net", "right gone gone 9", "show none", "step none 0-1", "passed none few",
                     "right none", "enough none none"]:
            self.check(line, "! UnknownName")

    def test_wrong_kinds(self):
        self.fill()
        for line in ["step know 0-1", "step few 0-1", "pair net 0-1", "pair few 0-1", "test net 2 1 0",
                     "test know 2 1 0", "run know 2 1 0", "run few 2 1 0", "right know", "right few", "right net few",
                     "right net net", "enough net", "enough few net", "enough few few", "passed few few",
                     "passed net net", "passed know few", "step few 9-9", "pair net 9-9", "test net 1", "run few 1",
                     "right net few 9", "enough know none 9", "passed few net 9"]:
            self.check(line, "! WrongKind")

    def test_names_that_are_taken(self):
        self.fill()
        for line in ["network net", "network know 0-1", "order few", "order net 0-1", "tests know", "rename net few",
                     "rename net net", "network net 9-9", "order know 1-1", "order know 0-1 1-0"]:
            self.check(line, "! NameTaken")

    def test_exceptions_of_things(self):
        self.fill()
        great = "9" * 30
        for line, name in [
                ("network new 1-0", "InvalidStep"), ("network new 0-1 0-3", "InvalidStep"),
                ("network new 1-1", "InvalidStep"), (f"network new 0-{great}", "InvalidStep"),
                ("step net 1-0", "InvalidStep"), ("step net 0-3", "InvalidStep"),
                (f"step net {great}-0", "InvalidStep"),
                ("order new 1-1", "InvalidPair"), ("order new 0-1 3-0", "InvalidPair"),
                ("order new 0-1 1-0 3-0", "InvalidPair"), ("order new 0-1 1-2 2-0", "Ring"),
                ("pair know 0-0", "InvalidPair"), ("pair know 3-0", "InvalidPair"), ("pair know 2-1", "Ring"),
                ("test few 0 1", "InvalidRow"), ("test few 0 1 2 3", "InvalidRow"), ("test few 0 1 1", "InvalidRow"),
                ("test few 0", "InvalidRow"), ("run net 0", "InvalidRow"), ("run net 0 1 2 3", "InvalidRow"),
                ("right net none 0", "InvalidFirst"), ("right net know 4", "InvalidFirst"),
                ("right net none -1", "InvalidFirst"), ("enough few none 4", "InvalidFirst"),
                (f"enough few know {great}", "InvalidFirst"), ("passed net few 0", "InvalidFirst"),
                ("enough few know", "NotFitting"), ("enough few know 1", "NotFitting")]:
            self.check(line, "! " + name)

    def test_nothing_to_undo(self):
        self.check("undo", "! NothingToUndo")
        self.assertEqual(self.console.run(["tests a", "undo", "undo"]), ["ok", "ok", "! NothingToUndo"])

    def test_too_large(self):
        self.bench = Bench(11)
        self.console = Console(self.bench)
        self.assertEqual(self.console.run(["network net", "tests few"]), ["ok", "ok"])
        for line in ["right net", "right net none 1", "enough few"]:
            self.check(line, "! TooLarge")
        self.check("passed net few", "yes")
        line = "test few " + " ".join(str(item) for item in range(11))
        self.assertEqual(self.console.run([line] * 101), ["ok"] * 100 + ["! TooLarge"])
        self.assertEqual(self.bench.deeds, 102)

    def test_only_exceptions_of_the_package_are_answered(self):
        class Broken(Bench):
            def names(self):
                raise ValueError("broken")

        bench = Broken(3)
        bench.put("a", [])
        with self.assertRaises(ValueError):
            Console(bench)("names")


class WrongLines(ConsoleTest):
    def test_words_too_many_or_too_few(self):
        self.fill()
        for line in ["network", "order", "tests", "tests a b", "step", "step net", "step net 0-1 0-1", "pair",
                     "pair know", "pair know 0-1 0-1", "test", "test few", "drop", "drop net few", "rename net",
                     "rename", "rename net a b", "undo net", "undo 1", "names net", "show", "show net net", "run net",
                     "run", "right", "right net know 1 1", "enough", "enough few know 1 1", "passed net", "passed",
                     "passed net few 1 1"]:
            self.check_wrong(line)

    def test_words_of_another_kind(self):
        self.fill()
        for line in ["network 0-1", "network net1", "network new 0", "network new 0 1", "network new 0-1 a",
                     "order new 1", "tests 1", "tests few,", "step 0-1 net", "step net 0", "step net 0 1",
                     "pair know 01", "test few a", "test few 0-1 2", "test 2 1 0", "run net 2 1 x", "run net 0-1",
                     "right net 1", "right net know know", "enough few 1", "passed net 1", "passed net few few",
                     "passed net few none", "right net - 1", "show -", "show 3", "drop *", "rename net 1"]:
            self.check_wrong(line)

    def test_spaces_capitals_and_line_feeds(self):
        self.fill()
        for line in ["names", "undo", "show net", "tests new", "test few 2 1 0", "network new 0-1 0-2"]:
            for wrong in [f" {line}", f"{line} ", line.replace(" ", "  "), line.capitalize(), line.upper(), f"{line}\n",
                          f"\n{line}", line.replace(" ", "\n"), f"{line}\t", line.replace(" ", "\t"), f"{line};",
                          f"{line} \n", f"{line}\nnames", f"  {line}"]:
                if wrong != line:
                    self.check_wrong(wrong)
        for line in ["", " ", "  ", "\n", "-", "name", "namess", "show Net", "show nEt", "Show net", "NAMES"]:
            self.check_wrong(line)

    def test_needless_signs_and_zeros(self):
        self.fill()
        for number in ["+1", "01", "00", "-0", "-01", "--1", "1-", "-", "1.0", "1e2", "0x1", "1_0", "", "1" * 31,
                       "-" + "1" * 31, "0" * 30, "- 1"]:
            self.check_wrong(f"test few {number} 2 3")
            self.check_wrong(f"run net 3 2 {number}")
            self.check_wrong(f"right net none {number}")
            self.check_wrong(f"enough few none {number}")
            self.check_wrong(f"passed net few {number}")
        for step in ["+0-1", "0-+1", "-0-1", "0--1", "00-1", "0-01", "0-1-", "-0-1-2", "0-1-2", "0-", "-1", "-", "--",
                     "0:1", "0,1", "(0,1)", "0 - 1", "1" * 31 + "-2", "0-" + "1" * 31]:
            self.check_wrong(f"network new {step}")
            self.check_wrong(f"network new 0-1 {step}")
            self.check_wrong(f"order new {step} 0-1")
            self.check_wrong(f"step net {step}")
            self.check_wrong(f"pair know {step}")

    def test_names_that_are_none(self):
        self.fill()
        for name in ["", "abcdefghi", "Net", "n1", "1", "a_b", "a-b", "-", "net,", "neT", "`", "{"]:
            for line in ["network {}", "order {} 0-1", "tests {}", "step {} 0-1", "pair {} 0-1", "test {} 0 1 2",
                         "drop {}", "rename {} new", "rename net {}", "show {}", "run {} 2 1 0", "right {}",
                         "right net {}", "enough {}", "enough few {}", "passed {} few", "passed net {}"]:
                self.check_wrong(line.replace("{}", name, 1))

    def test_words_that_are_no_commands(self):
        self.fill()
        for line in ["put net", "add net 0-1", "kind net", "refuted few", "trial", "deeds", "size", "networks net",
                     "net", "steps net 0-1", "help", "none", "len", "- net", "0", "0-1"]:
            self.check_wrong(line)

    def test_values_of_all_kinds(self):
        self.fill()
        for value in [*wrong_values(), 0, 1, ["names"], ("names",), {"names": 1}, self.bench, self.console]:
            self.check_wrong(value)


class Point53Run(ConsoleTest):
    def test_run_executes_the_lines_in_their_order(self):
        self.assertEqual(self.console.run([]), [])
        self.assertEqual(self.console.run(()), [])
        self.assertEqual(self.console.run(lines=("tests a", "names", "drop a", "names")), ["ok", "a", "ok", "-"])

    def test_run_goes_on_behind_exceptions(self):
        self.assertEqual(self.console.run(["drop a", "tests a", "tests a", "names"]),
                         ["! UnknownName", "ok", "! NameTaken", "a"])

    def test_lines_ahead_of_a_wrong_one_are_executed(self):
        wrong = ["names "]
        for value in ["names ", "", None, 5, wrong]:
            bench = Bench(3)
            lines = ["tests a", "tests b", value, "tests c", 5]
            self.assert_raises("InvalidLineOfText", value, Console(bench).run, lines)
            self.assertEqual((bench.names(), bench.deeds), (["a", "b"], 2))

    def test_values_that_are_no_lists(self):
        self.fill()
        ahead = self.state()
        for value in [0, 1, "names", *wrong_values(), self.bench]:
            if not isinstance(value, (list, tuple)):
                self.assert_raises("InvalidLineOfText", value, self.console.run, value)
        self.assertEqual(self.state(), ahead)

    def test_lines_stay_and_answers_are_new(self):
        lines = ["names", "names"]
        told = self.console.run(lines)
        told.append("more")
        self.assertEqual((lines, self.console.run(lines)), (["names", "names"], ["-", "-"]))


if __name__ == "__main__":
    unittest.main()
