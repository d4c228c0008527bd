import itertools
import unittest

from enoughtests.words import below, is_integer, is_row, is_sorted, is_word, mirrored, row_of, words_of, zeros

from helping import ProgramTest, all_words, wrong_values


def small_rows():
    return [row for size in range(1, 5) for row in itertools.product((-1, 0, 2), repeat=size)]


def wrong_chains():
    """Values that are no lists of words."""
    values = [value for value in wrong_rows() if value not in (["0"], ("1",), ["01"], ("0", "1"))]
    return [*values, ["01", 11], ["01", None], [["0"], ["1"]], {"0": 1}, ["", "1"], ["0" * 61], ("01", "02")]


def wrong_words():
    return [*wrong_values(), 0, 1, 10, [0, 1], (0, 1), ["01"]]


def wrong_rows_and_words():
    return [*wrong_values(), 0, 1, 10, ["01"], ("0", "1")]


def wrong_rows():
    return [*wrong_rows_and_words(), "0", "01", "10"]


class Examples(unittest.TestCase):
    def test_examples_of_the_interface(self):
        self.assertEqual(
            [words_of((2, 0, 1)), words_of([5, 5]), row_of(["100", "101", "111"]), is_sorted("0011"), is_word("012")],
            [["100", "101"], [], (3, 1, 2), True, False])
        self.assertEqual(
            [below("100", "101"), below("110", "101"), mirrored("100"), mirrored((2, 0, 1)), zeros("100")],
            [True, False, "110", (-1, 0, -2), 2])


class Point14(ProgramTest):
    def test_integers(self):
        for value in [0, 1, -1, 60, 10 ** 29, -10 ** 29]:
            self.assertIs(is_integer(value), True)

    def test_other_values_are_no_integers(self):
        for value in [*wrong_values(), "0", "10", [0], (1,)]:
            with self.subTest(value=value):
                self.assertIs(is_integer(value), False)

    def test_words(self):
        for size in range(1, 7):
            for word in all_words(size):
                self.assertIs(is_word(word), True)
        self.assertIs(is_word("01" * 30), True)

    def test_other_values_are_no_words(self):
        for value in wrong_words():
            with self.subTest(value=value):
                self.assertIs(is_word(value), False)
                self.assertIs(is_word(value, None), False)
                self.assertIs(is_word(value, 2), False)

    def test_words_of_a_size(self):
        for size in [1, 2, 59, 60]:
            self.assertIs(is_word("1" * size, size), True)
            for other in [-1, 0, size - 1, size + 1, 61, 10 ** 29]:
                self.assertIs(is_word("1" * size, other), False)

    def test_sizes_beyond_the_limits_have_no_words_and_no_rows(self):
        for size in [0, 61, 100]:
            self.assertIs(is_word("0" * size), False)
            self.assertIs(is_word("0" * size, size), False)
            self.assertIs(is_row((0,) * size), False)
            self.assertIs(is_row((0,) * size, size), False)
            self.assertIs(is_row([0] * size, size), False)

    def test_rows(self):
        for value in [(0,), [0], (5, 5), [-3, 10 ** 29, -3], (0,) * 60, [1] * 60]:
            self.assertIs(is_row(value), True)
            self.assertIs(is_row(value, None), True)

    def test_other_values_are_no_rows(self):
        for value in wrong_rows():
            with self.subTest(value=value):
                self.assertIs(is_row(value), False)
                self.assertIs(is_row(value, 2), False)

    def test_rows_with_true_or_false_are_none(self):
        for value in [(0, True), [False, 1], (True, False)]:
            self.assertIs(is_row(value), False)
            self.assertIs(is_row(value, 2), False)

    def test_rows_of_a_size(self):
        for size in [1, 2, 59, 60]:
            for value in [(7,) * size, [7] * size]:
                self.assertIs(is_row(value, size), True)
                for other in [-1, 0, size - 1, size + 1, 61]:
                    self.assertIs(is_row(value, other), False)

    def test_values_may_be_passed_by_name(self):
        self.assertIs(is_integer(value=3), True)
        self.assertIs(is_word(size=2, value="01"), True)
        self.assertIs(is_word("01", size=3), False)
        self.assertIs(is_row(size=2, value=[0, 1]), True)
        self.assertIs(is_row((0, 1), size=3), False)
        self.assertIs(is_sorted(value="10"), False)

    def test_is_sorted_for_words(self):
        for size in range(1, 7):
            for word in all_words(size):
                self.assertIs(is_sorted(word), "".join(sorted(word)) == word)

    def test_is_sorted_for_rows(self):
        for row in small_rows():
            self.assertIs(is_sorted(row), sorted(row) == list(row))
            self.assertIs(is_sorted(list(row)), sorted(row) == list(row))
        self.assertIs(is_sorted((9, 10)), True)
        self.assertIs(is_sorted(tuple(range(60))), True)
        self.assertIs(is_sorted((*range(59), 57)), False)

    def test_is_sorted_raises_for_other_values(self):
        for value in wrong_rows_and_words():
            with self.subTest(value=value):
                self.assert_raises("InvalidRow", value, is_sorted, value)


class Point15(ProgramTest):
    def test_zeros(self):
        self.assertEqual([zeros("0"), zeros("1"), zeros("0110100"), zeros("0" * 60)], [1, 0, 4, 60])
        self.assertEqual(zeros(word="10"), 1)

    def test_zeros_raises_for_other_values(self):
        for value in wrong_words():
            with self.subTest(value=value):
                self.assert_raises("InvalidWord", value, zeros, value)

    def test_below(self):
        for size in range(1, 5):
            for one in all_words(size):
                for other in all_words(size):
                    expected = not any(a == "1" and b == "0" for a, b in zip(one, other))
                    self.assertIs(below(one, other), expected)
        self.assertIs(below("0" * 60, "1" * 60), True)
        self.assertIs(below(other="00", one="01"), False)

    def test_below_raises_for_the_first_that_is_no_word(self):
        for value in wrong_words():
            with self.subTest(value=value):
                self.assert_raises("InvalidWord", value, below, value, "01")
                self.assert_raises("InvalidWord", value, below, "01", value)
                self.assert_raises("InvalidWord", value, below, value, None)

    def test_below_raises_for_unlike_sizes(self):
        self.assert_raises_equal("UnlikeSizes", (2, 3), below, "01", "011")
        self.assert_raises_equal("UnlikeSizes", (60, 1), below, "1" * 60, "0")

    def test_mirrored_words(self):
        self.assertEqual([mirrored("0"), mirrored("1"), mirrored("110"), mirrored("0010")], ["1", "0", "100", "1011"])
        for word in all_words(5):
            expected = "".join({"0": "1", "1": "0"}[letter] for letter in reversed(word))
            self.assertEqual(mirrored(word), expected)
        self.assertEqual(mirrored(value="0" * 60), "1" * 60)

    def test_mirrored_rows_are_tuples(self):
        for row in [(0,), [0], [3, -1, 3], (1, 2, 10 ** 29)]:
            result = mirrored(row)
            self.assertEqual(result, tuple(-item for item in reversed(row)))
            self.assertIs(type(result), tuple)

    def test_the_words_of_a_mirrored_row_are_the_mirrored_words(self):
        for row in small_rows():
            self.assertEqual(sorted(words_of(mirrored(row))), sorted(mirrored(word) for word in words_of(row)))

    def test_mirrored_raises_for_other_values(self):
        for value in wrong_rows_and_words():
            with self.subTest(value=value):
                self.assert_raises("InvalidRow", value, mirrored, value)

    def test_arguments_are_not_modified(self):
        row = [2, 0, 1]
        mirrored(row)
        words_of(row)
        is_sorted(row)
        self.assertEqual(row, [2, 0, 1])


class Point16(ProgramTest):
    def test_words_of_rows(self):
        self.assertEqual(words_of((0, 1, 2, 3)), ["0001", "0011", "0111"])
        self.assertEqual(words_of((9, 10, 9)), ["010"])
        self.assertEqual(words_of([-5, -7, -5, 0]), ["0001", "1011"])
        self.assertEqual(words_of(row=(4,)), [])
        self.assertEqual(words_of((7,) * 60), [])
        self.assertEqual(words_of(tuple(range(60))), ["0" * (60 - ones) + "1" * ones for ones in range(1, 60)])

    def test_words_of_all_small_rows(self):
        for row in small_rows():
            expected = []
            for level in sorted({item for item in row if item > min(row)}, reverse=True):
                expected.append("".join(str(int(item >= level)) for item in row))
            self.assertEqual(words_of(row), expected)
            self.assertEqual(words_of(list(row)), expected)

    def test_words_of_returns_a_new_list(self):
        words_of((1, 0)).append("11")
        self.assertEqual(words_of((1, 0)), ["10"])

    def test_words_of_raises_for_other_values(self):
        for value in wrong_rows():
            with self.subTest(value=value):
                self.assert_raises("InvalidRow", value, words_of, value)

    def test_row_of_chains(self):
        self.assertEqual(row_of(["0"]), (0,))
        self.assertEqual(row_of(["1"]), (1,))
        self.assertEqual(row_of(["000", "010", "011", "111"]), (1, 3, 2))
        self.assertEqual(row_of(("000", "010")), (0, 1, 0))
        self.assertEqual(row_of(words=["10"]), (1, 0))
        self.assertEqual(row_of(["0" * (60 - ones) + "1" * ones for ones in range(61)]), tuple(range(1, 61)))
        self.assertIs(type(row_of(["10"])), tuple)

    def test_the_words_of_the_row_of_a_chain(self):
        for many in range(1, 5):
            for words in itertools.permutations(all_words(3), many):
                if all(a != b and below(a, b) for a, b in zip(words, words[1:])):
                    both = [word for word in words if "0" in word and "1" in word]
                    self.assertEqual(words_of(row_of(list(words))), both)
                else:
                    self.assert_raises("InvalidChain", words, row_of, words)

    def test_row_of_raises_for_values_that_are_no_chains(self):
        for value in [*wrong_chains(), ["01", "01"], ["11", "01"], ["01", "10"], ["0", "01"], ["01", "1"],
                      ["00", "10", "10"], ["00", "11", "01"], ("1", "0"), ("0", "00")]:
            with self.subTest(value=value):
                self.assert_raises("InvalidChain", value, row_of, value)

    def test_the_chain_is_not_modified(self):
        words = ["000", "100", "101"]
        row_of(words)
        self.assertEqual(words, ["000", "100", "101"])


if __name__ == "__main__":
    unittest.main()
