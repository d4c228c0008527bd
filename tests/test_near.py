import unittest

from enoughtests.near import is_near_sorter, near_sorter, only_failing
from enoughtests.networks import Network, sorter
from enoughtests.orders import Order

from helping import ProgramTest, all_words, made, networks, wrong_networks, wrong_values

MOST_STEPS = 2000


def unsorted_words(size):
    return [word for word in all_words(size) if "10" in word]


def sorted_words(size):
    return ["0" * (size - ones) + "1" * ones for ones in range(size + 1)]


def failing(network):
    """The words that a network does not sort, found for all words at once.

    For each line there is an integer whose bits are what stands there for all the words, the word with the number k at
    the bit k; a step then makes and and or of two of them.
    """
    size = network.size
    mask = (1 << (1 << size)) - 1
    lines = []
    for line in range(size):
        half = 1 << (size - 1 - line)
        lines.append((mask // ((1 << half) + 1)) << half)
    for i, j in network:
        lines[i], lines[j] = lines[i] & lines[j], lines[i] | lines[j]
    wrong = 0
    for line in range(size - 1):
        wrong |= lines[line] & ~lines[line + 1]
    return [format(number, "b").zfill(size) for number in range(1 << size) if (wrong >> number) & 1]


def words_of_size(size):
    """Some words that are not sorted: with few 1, with few 0, and with many changes."""
    return [
        "1" + "0" * (size - 1), "1" * (size - 1) + "0", "10" * (size // 2) + "1" * (size % 2),
        "01" * (size // 2 - 1) + "10" + "0" * (size % 2), "0" * (size - 2) + "10", "10" + "1" * (size - 2),
        ("110" * size)[:size - 1] + "0", ("0010111" * size)[:size - 1] + "0",
        "000" + "1" * 3 + "0" * (size - 6), "1" * (size // 2) + "000" + "1" * (size - size // 2 - 3),
    ]


def changed(word, *lines):
    return "".join({"0": "1", "1": "0"}[letter] if line in lines else letter for line, letter in enumerate(word))


class Examples(ProgramTest):
    def test_examples_of_the_interface(self):
        self.assertEqual(
            [len(near_sorter("10")), is_near_sorter(near_sorter("0110"), "0110"), near_sorter("1011")("1101"),
             only_failing(Network(3, [(0, 2), (0, 1)]))],
            [0, True, "0111", "010"])
        self.assert_raises_equal("SortedWord", "0011", near_sorter, "0011")


class Point31(ProgramTest):
    def check_kind(self, network, size):
        self.assertIs(type(network), Network)
        self.assertEqual(network.size, size)
        self.assertLessEqual(len(network), MOST_STEPS)

    def test_all_words_up_to_eight_signs(self):
        for size in range(2, 9):
            for word in unsorted_words(size):
                network = near_sorter(word)
                self.check_kind(network, size)
                for other in all_words(size):
                    came = made(network, other)
                    self.assertIs(came == sorted(other), other != word)

    def test_some_longer_words(self):
        for size in [9, 10, 11, 13, 16]:
            for word in words_of_size(size):
                network = near_sorter(word)
                self.check_kind(network, size)
                self.assertEqual(failing(network), [word])

    def test_some_long_words(self):
        for size in [30, 59, 60]:
            for word in words_of_size(size):
                network = near_sorter(word)
                self.check_kind(network, size)
                self.assertNotEqual(network(word), "".join(sorted(word)))
                near = [changed(word, line) for line in range(size)]
                near += [changed(word, line, (line * 7 + 1) % size) for line in range(size)]
                for other in {*near, *words_of_size(size), *sorted_words(size), word[1:] + word[0]} - {word}:
                    self.assertEqual(network(other), "".join(sorted(other)))

    def test_words_of_all_sizes_stay_within_the_limit_of_steps(self):
        for size in range(2, 61):
            for word in ["1" + "0" * (size - 1), "1" * (size - 1) + "0", ("01" * size)[:size - 2] + "10"]:
                network = near_sorter(word)
                self.check_kind(network, size)
                self.assertNotEqual(network(word), "".join(sorted(word)))

    def test_rows_tell_the_same(self):
        network = near_sorter("0110")
        self.assertEqual([network((0, 3, 2, 1)) == (0, 1, 2, 3), network((1, 3, 2, 0)) == (0, 1, 2, 3),
                          network((3, 1, 2, 0)) == (0, 1, 2, 3)], [False, False, True])

    def test_equal_calls_return_equal_networks(self):
        self.assertEqual(near_sorter("01101"), near_sorter(word="01101"))

    def test_near_sorter_raises(self):
        for value in [0, 10, [1, 0], (1, 0), ["10"], *wrong_values()]:
            with self.subTest(value=value):
                self.assert_raises("InvalidWord", value, near_sorter, value)
        for size in [1, 2, 3, 8, 60]:
            for word in sorted_words(size):
                self.assert_raises("SortedWord", word, near_sorter, word)


class Point32(ProgramTest):
    def test_near_sorters(self):
        for size in range(2, 8):
            for word in unsorted_words(size):
                network = near_sorter(word)
                self.assertIs(is_near_sorter(network, word), True)
                self.assertEqual(only_failing(network), word)
        for word in words_of_size(10):
            self.assertIs(is_near_sorter(near_sorter(word), word), True)
            self.assertEqual(only_failing(near_sorter(word)), word)

    def test_all_small_networks(self):
        for network in [Network(1), *networks(2, 2), *networks(3, 4), *networks(4, 2), *networks(4, 1)]:
            words = failing(network)
            self.assertEqual(only_failing(network), words[0] if len(words) == 1 else None)
            for word in unsorted_words(network.size):
                self.assertIs(is_near_sorter(network, word), words == [word])

    def test_networks_that_are_no_near_sorters(self):
        self.assertEqual([only_failing(sorter(10)), only_failing(Network(10)), only_failing(Network(1))], [None] * 3)
        self.assertIs(is_near_sorter(sorter(10), "1" * 9 + "0"), False)
        self.assertIs(is_near_sorter(Network(10), "1" * 9 + "0"), False)
        self.assertIs(is_near_sorter(near_sorter("0110"), "1010"), False)

    def test_networks_of_other_sizes(self):
        for size in [1, 2, 3, 5, 11, 60]:
            for network in [Network(size), sorter(size), *([near_sorter("10" * (size // 2))] if size % 2 == 0 else [])]:
                self.assertIs(is_near_sorter(network, "1010"), False)

    def test_any_other_value_is_no_near_sorter(self):
        for value in [*wrong_networks(), "2:", "10", Order(2), [(0, 1)]]:
            with self.subTest(value=value):
                self.assertIs(is_near_sorter(value, "10"), False)
        self.assertIs(is_near_sorter(word="10", network=Network(2)), True)

    def test_is_near_sorter_raises(self):
        for value in [0, 10, [1, 0], (1, 0), ["10"], *wrong_values()]:
            with self.subTest(value=value):
                self.assert_raises("InvalidWord", value, is_near_sorter, Network(2), value)
                self.assert_raises("InvalidWord", value, is_near_sorter, None, value)
        for size in [1, 2, 8, 10, 11, 60]:
            for word in sorted_words(size):
                self.assert_raises("SortedWord", word, is_near_sorter, Network(size), word)
                self.assert_raises("SortedWord", word, is_near_sorter, None, word)
        for size in [11, 12, 60]:
            for network in [near_sorter("10" + "1" * (size - 2)), Network(size), Network(2), None, [5]]:
                self.assert_raises_equal("TooLarge", size, is_near_sorter, network, "10" + "1" * (size - 2))
        self.assertIs(is_near_sorter(Network(11), "10"), False)

    def test_only_failing_raises(self):
        for value in wrong_networks():
            with self.subTest(value=value):
                self.assert_raises("NotNetwork", value, only_failing, value)
        for size in [11, 12, 60]:
            self.assert_raises_equal("TooLarge", size, only_failing, Network(size))
            self.assert_raises_equal("TooLarge", size, only_failing, network=sorter(size))


if __name__ == "__main__":
    unittest.main()
