"""The rows of the document's examples, and the slices that its terms name."""

import unittest

from cutnotation.slices import answers
from tests.calls import (
    assign, check_syntax, difference, element_at, find_slice, first_common, index_of, intersect, reverse, run, set_length,
    slice_of, text_answer, union,
)


class Examples(unittest.TestCase):
    def test_ten(self):
        given = run(
            set_length(10), assign(1, "2:9:3"), slice_of(2, 1, "::-2"), find_slice(0, 2), find_slice(1, 2), assign(3, "::-4"),
            intersect(4, 1, 3), first_common(1, 3), union(5, 1, 3), difference(6, 0, 1), index_of(2, 8),
            check_syntax("1::0"),
        )
        self.assertEqual(given, [
            [10], [3, 2, 3], [2, 8, -6], text_answer("8::-6"), text_answer("::-2"), [3, 9, -4], [1, 5, 1], [1, 5], [-14],
            [-14], [0], [5, 3],
        ])

    def test_ten_members(self):
        given = run(
            set_length(10), assign(1, "2:9:3"), slice_of(2, 1, "::-2"), assign(3, "::-4"),
            element_at(1, 0), element_at(1, 1), element_at(1, 2), element_at(2, 0), element_at(2, 1),
            element_at(3, 0), element_at(3, 1), element_at(3, 2),
        )
        self.assertEqual(given[4:], [[2], [5], [8], [8], [2], [9], [5], [1]])

    def test_longest(self):
        given = run(
            set_length(1000000000000000000), assign(1, "7::999999999999999989"), assign(2, "::-6"), first_common(1, 2),
            assign(3, "5::1000003"), assign(4, "3::1000005"), first_common(3, 4),
        )
        self.assertEqual(given, [
            [1000000000000000000], [2, 7, 999999999999999989], [166666666666666667, 999999999999999999, -6],
            [0, 4, 3999999999999999963], [999997000009, 5, 1000003], [999995000025, 3, 1000005], [1, 1000008],
        ])

    def test_thirty(self):
        given = run(
            set_length(30), assign(1, "29::1"), find_slice(0, 1), assign(3, "23:5:-4"), find_slice(0, 3), assign(4, "3:3"),
            find_slice(0, 4), find_slice(3, 4),
        )
        self.assertEqual(given, [
            [30], [1, 29, 1], [3, *b"-1:"], [5, 23, -4], [7, *b"-7:3:-4"], [0, 0, 1], [2, *b":0"], [2, *b"5:"]])
        self.assertEqual(given[6], [2, 58, 48])

    def test_slices_of_the_terms(self):
        given = run(
            set_length(10), assign(1, "2:9:3"), assign(1, "::-4"), assign(1, "-3:"), assign(1, "8:2:-9"),
            assign(1, "5:5"), assign(1, "9:-20"), assign(1, ":"),
        )
        self.assertEqual(given[1:], [[3, 2, 3], [3, 9, -4], [3, 7, 1], [1, 8, 1], [0, 0, 1], [0, 0, 1], [10, 0, 1]])

    def test_one_list_as_the_numbers_stand(self):
        calls = [0, 10, 1, 1, 5, 50, 58, 57, 58, 51, 3, 2, 1, 4, 9, 5, 2, -1, 6, 2, 3, 7, 0, 2, 1, 1, 0, 0, 4, 0]
        self.assertEqual(answers(calls), [1, 10, 3, 3, 2, 3, 3, 3, 8, -3, 1, -10, 1, 2, 1, -13, 3, 3, 8, -3, 1, -4,
                                          3, 3, 8, -3])

    def test_the_later_calls_as_the_numbers_stand(self):
        calls = [0, 30, 1, 1, 5, 50, 57, 58, 58, 49, 8, 1, 0, 9, 0, 1, 10, 0, 1, 11, 2, 0, 1, 12, 3, 0, 1, 13, 0, 1,
                 13, 1, 0, 14, 0, 14, 2, 58, 48, 4, 3]
        self.assertEqual(answers(calls), [1, 30, 3, 1, 29, 1, 1, 1, 1, 0, 2, 1, 29, 3, 30, 0, 1, 3, 29, 0, 1,
                                          4, 3, 45, 49, 58, 1, -15, 2, 4, 0, 2, 0, 0, 3, 29, 0, 1])

    def test_calls_behind_a_text(self):
        given = run(
            set_length(4), assign(0, ""), slice_of(0, 0, ""), check_syntax(""), assign(0, "1:"), check_syntax("::-0"),
            reverse(0, 0),
        )
        self.assertEqual(given, [[4], [-4], [-4], [4, 0], [3, 1, 1], [5, 2], [3, 3, -1]])


if __name__ == "__main__":
    unittest.main()
