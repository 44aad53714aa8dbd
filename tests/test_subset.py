"""is_subset and same_elements, held against the sets of the elements."""

import itertools
import unittest

from tests.calls import (
    LIMIT, assign, intersect, is_subset, members, notation_of, reverse, run, run_groups, same_elements, set_length,
    small_progressions,
)

FAR = 10 ** 18 - 1


class SmallProgressions(unittest.TestCase):
    def test_all_pairs(self):
        pairs = list(itertools.product(small_progressions(8), repeat=2))
        groups = [[assign(1, notation_of(p)), assign(2, notation_of(q)), is_subset(1, 2), same_elements(1, 2)]
                  for p, q in pairs]
        for (p, q), given in zip(pairs, run_groups([set_length(8)], groups)):
            one, other = set(members(p)), set(members(q))
            self.assertEqual(given, [list(p), list(q), [int(one <= other)], [int(one == other)]], (p, q))

    def test_longer_ones(self):
        texts = [f"{first}::{size}" for first in (0, 1, 5, 17, 59) for size in (-15, -6, -4, -1, 1, 2, 3, 6, 10, 14)]
        texts += ["50:9:-6", "9:50:4", "9:49:4", "30:31", "12:37:12", "48:0:-12", "7:7"]
        groups = [[assign(1, one), assign(2, two), is_subset(1, 2), same_elements(1, 2)] for one in texts for two in texts]
        for p, q, subset, same in run_groups([set_length(60)], groups):
            one, other = set(members(p)), set(members(q))
            self.assertEqual((subset, same), ([int(one <= other)], [int(one == other)]), (p, q))


class Edges(unittest.TestCase):
    def both_ways(self, n, one, two):
        given = run(
            set_length(n), assign(1, one), assign(2, two), is_subset(1, 2), is_subset(2, 1), same_elements(1, 2),
            same_elements(2, 1))
        return [answer[0] for answer in given[3:]]

    def test_empty(self):
        self.assertEqual(self.both_ways(10, "5:5", "9:2"), [1, 1, 1, 1])
        for text in (":", "::-1", "0:1", "9:", "2:9:3", "::-4"):
            self.assertEqual(self.both_ways(10, "5:5", text), [1, 0, 0, 0], text)

    def test_one_element(self):
        self.assertEqual(self.both_ways(10, "5:6", "5::5"), [1, 1, 1, 1])
        self.assertEqual(self.both_ways(10, "5:6", "6:7"), [0, 0, 0, 0])
        for text in ("::5", "5::2", "5::-1", "::-4", ":6"):
            self.assertEqual(self.both_ways(10, "5:6", text), [1, 0, 0, 0], text)
        for text in ("::2", ":5", "6:", "::-3", "4::-1", "1::9"):
            self.assertEqual(self.both_ways(10, "5:6", text), [0, 0, 0, 0], text)

    def test_the_opposite_order(self):
        for text in (":", "::2", "1::3", "2:9:3", "::9", "4:5", "5:5", "::-4"):
            given = run(set_length(10), assign(1, text), reverse(2, 1), is_subset(1, 2), is_subset(2, 1), same_elements(1, 2))
            self.assertEqual(given[3:], [[1]] * 3, text)

    def test_parts(self):
        self.assertEqual(self.both_ways(30, "::6", "::3"), [1, 0, 0, 0])
        self.assertEqual(self.both_ways(30, "24::-6", "::-3"), [0, 0, 0, 0])
        self.assertEqual(self.both_ways(30, "24::-6", "27::-3"), [1, 0, 0, 0])
        self.assertEqual(self.both_ways(30, "3:16:3", "3:13:3"), [0, 1, 0, 0])
        self.assertEqual(self.both_ways(30, "::2", "1::2"), [0, 0, 0, 0])
        self.assertEqual(self.both_ways(30, "0:7:6", "0:7:3"), [1, 0, 0, 0])
        self.assertEqual(self.both_ways(30, "::4", "::6"), [0, 0, 0, 0])

    def test_a_register_and_itself(self):
        for text in (":", "5:5", "3:4", "::-3"):
            self.assertEqual(run(set_length(10), assign(4, text), is_subset(4, 4), same_elements(4, 4))[2:], [[1], [1]])

    def test_longest(self):
        for one, two, flags in (
                (":", "::-1", [1, 1, 1, 1]), ("1:", ":", [1, 0, 0, 0]), ("::-2", ":", [1, 0, 0, 0]),
                ("::-2", "1::2", [1, 1, 1, 1]), ("::-2", "::2", [0, 0, 0, 0]), (f"::{FAR}", f"::-{FAR}", [1, 1, 1, 1]),
                (f"::{FAR}", "::3", [1, 0, 0, 0]), (f"::{FAR}", "::9", [1, 0, 0, 0]), (f"::{FAR}", "::17", [0, 0, 0, 0]),
                ("::-6", "1::2", [1, 0, 0, 0]), ("-1:", f"::{FAR - 1}", [0, 0, 0, 0]), ("-2:-1", f"::{FAR - 1}", [1, 0, 0, 0]),
                (":999999999999999998:3", ":999999999999999999:3", [1, 1, 1, 1]), ("::3", "::6", [0, 1, 0, 0])):
            self.assertEqual(self.both_ways(LIMIT, one, two), flags, (one, two))

    def test_a_subset_is_what_intersecting_leaves(self):
        sizes = [-LIMIT // 3, -1000005, -6, -1, 1, 2, 9, 1000003, LIMIT // 7, FAR]
        texts = [f"{first}::{size}" for first in (0, 5, LIMIT // 2, FAR) for size in sizes]
        groups = [[assign(1, one), assign(2, two), intersect(3, 1, 2), is_subset(1, 2), is_subset(3, 2), is_subset(3, 1),
                   same_elements(3, 1)] for one in texts for two in texts]
        for p, q, found, subset, in_q, in_p, same in run_groups([set_length(LIMIT)], groups):
            self.assertEqual((subset, same), ([int(found == p)],) * 2, (p, q))
            self.assertEqual((in_q, in_p), ([1], [1]), (p, q))


if __name__ == "__main__":
    unittest.main()
