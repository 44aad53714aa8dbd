"""The rows of the document's examples, and the slices that its terms name."""

import unittest

from cutnotation.slices import answers
from tests.calls import assign, element_at, index_of, intersect, reverse, run, set_length, slice_of


class Examples(unittest.TestCase):
    def test_ten(self):
        given = run(
            set_length(10), assign(1, "2:9:3"), slice_of(2, 1, "::-2"), assign(3, "::-4"), intersect(4, 1, 3),
            index_of(2, 8),
        )
        self.assertEqual(given, [[10], [3, 2, 3], [2, 8, -6], [3, 9, -4], [1, 5, 1], [0]])

    def test_ten_members(self):
        given = run(
            set_length(10), assign(1, "2:9:3"), slice_of(2, 1, "::-2"), assign(3, "::-4"),
            element_at(1, 0), element_at(1, 1), element_at(1, 2), element_at(2, 0), element_at(2, 1),
            element_at(3, 0), element_at(3, 1), element_at(3, 2),
        )
        self.assertEqual(given[4:], [[2], [5], [8], [8], [2], [9], [5], [1]])

    def test_longest(self):
        given = run(
            set_length(1000000000000000000), assign(1, "7::999999999999999989"), assign(2, "::-6"),
            assign(3, "5::1000003"), assign(4, "3::1000005"),
        )
        self.assertEqual(given, [
            [1000000000000000000], [2, 7, 999999999999999989], [166666666666666667, 999999999999999999, -6],
            [999997000009, 5, 1000003], [999995000025, 3, 1000005],
        ])

    def test_thirty(self):
        given = run(set_length(30), assign(1, "29::1"), assign(3, "23:5:-4"), assign(4, "3:3"))
        self.assertEqual(given, [[30], [1, 29, 1], [5, 23, -4], [0, 0, 1]])

    def test_slices_of_the_terms(self):
        given = run(
            set_length(10), assign(1, "2:9:3"), assign(1, "::-4"), assign(1, "-3:"), assign(1, "8:2:-9"),
            assign(1, "5:5"), assign(1, "9:-20"), assign(1, ":"),
        )
        self.assertEqual(given[1:], [[3, 2, 3], [3, 9, -4], [3, 7, 1], [1, 8, 1], [0, 0, 1], [0, 0, 1], [10, 0, 1]])

    def test_one_list_as_the_numbers_stand(self):
        calls = [0, 10, 1, 1, 5, 50, 58, 57, 58, 51, 3, 2, 1, 4, 9, 5, 2, -1, 6, 2, 3, 7, 0, 2, 1, 1, 0, 0, 4, 0]
        self.assertEqual(answers(calls), [1, 10, 3, 3, 2, 3, 3, 3, 8, -3, 1, -10, 1, 2, 1, -13, 3, 3, 8, -3, 1, -4,
                                          3, 3, 8, -3])

    def test_calls_behind_a_text(self):
        given = run(set_length(4), assign(0, ""), slice_of(0, 0, ""), assign(0, "1:"), reverse(0, 0))
        self.assertEqual(given, [[4], [-4], [-4], [3, 1, 1], [3, 3, -1]])


if __name__ == "__main__":
    unittest.main()
