"""intersect, held against a plain count of the elements."""

import itertools
import unittest

from tests.calls import (
    EMPTY, LIMIT, as_range, assign, canonical, get, intersect, members, notation_of, reverse, run, run_groups, set_length,
    slice_of, small_progressions,
)

FAR = 10 ** 18 - 1


def shared(p, q):
    """The elements of p that are in q, in the order of p; goes through the shorter of the two."""
    if p[0] <= q[0]:
        return [number for number in as_range(p) if number in as_range(q)]
    return sorted([number for number in as_range(q) if number in as_range(p)], reverse=p[2] < 0)


class SmallProgressions(unittest.TestCase):
    def test_all_pairs(self):
        pairs = list(itertools.product(small_progressions(8), repeat=2))
        groups = [[assign(1, notation_of(p)), assign(2, notation_of(q)), intersect(3, 1, 2), get(3)] for p, q in pairs]
        for (p, q), given in zip(pairs, run_groups([set_length(8)], groups)):
            found = canonical([number for number in members(p) if number in members(q)])
            self.assertEqual(given, [list(p), list(q), found, found], (p, q))

    def test_longer_ones(self):
        firsts = [0, 1, 5, 17, 59]
        sizes = [-15, -6, -4, -1, 1, 2, 3, 6, 10, 14]
        texts = [f"{first}::{size}" for first in firsts for size in sizes] + ["50:9:-6", "9:50:4", "30:31"]
        groups = [
            [assign(1, one), assign(2, two), intersect(3, 1, 2), intersect(4, 2, 1)] for one in texts for two in texts]
        for p, q, there, back in run_groups([set_length(60)], groups):
            self.assertEqual(there, canonical([number for number in members(p) if number in members(q)]), (p, q))
            self.assertEqual(back, canonical([number for number in members(q) if number in members(p)]), (p, q))

    def test_into_the_register_of_p_or_q(self):
        texts = ["4:4", "6:7", ":", "::-1", "1::2", "::-2", "::3", "10:1:-3", "2:9"]
        for one, two in itertools.product(texts, repeat=2):
            setup = [set_length(12), assign(1, one), assign(2, two)]
            p, q, found = run(*setup, intersect(3, 1, 2))[1:]
            self.assertEqual(found, canonical([number for number in members(p) if number in members(q)]))
            self.assertEqual(run(*setup, intersect(1, 1, 2), get(1), get(2))[3:], [found, found, q])
            self.assertEqual(run(*setup, intersect(2, 1, 2), get(1), get(2))[3:], [found, p, found])
            self.assertEqual(run(*setup, intersect(1, 1, 1), intersect(3, 2, 2), get(1))[3:], [p, q, p])

    def test_the_order_of_p(self):
        given = run(
            set_length(30), assign(1, "::2"), assign(2, "::-3"), intersect(3, 1, 2), intersect(4, 2, 1), reverse(5, 1),
            intersect(6, 5, 2), intersect(7, 0, 2),
        )
        self.assertEqual(given[3:], [[5, 2, 6], [5, 26, -6], [15, 28, -2], [5, 26, -6], [10, 2, 3]])

    def test_one_element_is_canonical(self):
        given = run(
            set_length(30), assign(1, "20:0:-7"), assign(2, "::-5"), intersect(3, 1, 2), assign(4, "6:7"), intersect(5, 1, 4),
            intersect(6, 4, 1),
        )
        self.assertEqual(given[1:], [[3, 20, -7], [6, 29, -5], EMPTY, [1, 6, 1], [1, 6, 1], [1, 6, 1]])

    def test_nothing_in_common_is_canonical(self):
        pairs = [("::2", "1::2"), ("::-2", "::2"), ("0:10:3", "10:20:3"), ("20:10:-1", ":9"), ("2::6", "4::9"), ("3:4", "4:5")]
        for one, two in pairs:
            given = run(set_length(30), assign(1, one), assign(2, two), intersect(3, 1, 2), intersect(4, 2, 1), get(3))
            self.assertEqual(given[3:], [EMPTY] * 3, (one, two))

    def test_empty_operands(self):
        for text in (":", "::-1", "3:4", "5:5", "::-4"):
            given = run(
                set_length(10), assign(1, "5:5"), assign(2, text), intersect(3, 1, 2), intersect(4, 2, 1), intersect(5, 1, 1),
                intersect(2, 2, 1), get(2), get(1),
            )
            self.assertEqual(given[3:], [EMPTY] * 6, text)


class LongestSequences(unittest.TestCase):
    def hold(self, one, two):
        p, q, there, back = run(set_length(LIMIT), assign(1, one), assign(2, two), intersect(3, 1, 2), intersect(4, 2, 1))[1:]
        self.assertEqual(there, canonical(shared(p, q)), (one, two))
        self.assertEqual(back, canonical(shared(q, p)), (one, two))
        return there

    def test_large_steps(self):
        sizes = [FAR, FAR - 1, FAR - 10, LIMIT // 2, LIMIT // 2 - 1, LIMIT // 3, LIMIT // 7 + 1, LIMIT // 100]
        firsts = [0, 1, 2, 10, LIMIT // 100, LIMIT // 2]
        texts = [f"{first}::{size}" for first in firsts for size in sizes]
        texts += [f"{-1 - first}::-{size}" for first in firsts for size in sizes]
        for one in texts[::5]:
            for two in texts:
                self.hold(one, two)

    def test_large_steps_against_small_ones(self):
        for one in (f"::{FAR}", f"7::{FAR - 10}", f"::-{FAR}", f"3::{LIMIT // 3}", f"::-{LIMIT // 100 + 1}", "5:6", "-1:"):
            for two in (":", "::-1", "::2", "1::2", "::-3", "::7", "4::1000003", "::-1000005", ":500000000000000000:9"):
                self.hold(one, two)

    def test_one_in_common(self):
        self.assertEqual(self.hold(f"::{FAR}", f"::-{FAR - 1}"), [1, FAR, 1])
        self.assertEqual(self.hold(f"1::{FAR - 1}", f"::{FAR}"), [1, FAR, 1])
        self.assertEqual(self.hold("7::999999999999999989", "::-6"), EMPTY)
        self.assertEqual(self.hold("3::999999999999999989", "::-6"), [1, 3, 1])

    def test_all_of_a_large_step(self):
        self.assertEqual(self.hold(f"::-{FAR}", ":"), [2, FAR, -FAR])
        self.assertEqual(self.hold(":", f"::-{FAR}"), [2, 0, FAR])
        self.assertEqual(self.hold(f"::-{FAR}", "::3"), [2, FAR, -FAR])
        self.assertEqual(self.hold(f"::{FAR - 1}", "::-2"), EMPTY)

    def test_many_in_common(self):
        given = run(
            set_length(LIMIT), assign(3, "5::1000003"), assign(4, "3::1000005"), intersect(5, 3, 4), reverse(3, 3),
            intersect(6, 3, 4), intersect(7, 4, 3), slice_of(6, 6, "::-1"),
        )
        stride = 1000003 * 1000005
        count = (FAR - 1000008) // stride + 1
        upward = [count, 1000008, stride]
        self.assertEqual(given[3], upward)
        self.assertEqual(given[5:], [[count, 1000008 + (count - 1) * stride, -stride], upward, upward])

    def test_many_in_common_with_a_divisor(self):
        given = run(
            set_length(LIMIT), assign(1, "4::6"), assign(2, "::-10"), intersect(3, 1, 2), intersect(4, 2, 1), intersect(5, 0, 2),
            reverse(6, 0), intersect(7, 6, 1),
        )
        self.assertEqual(given[1:3], [[166666666666666666, 4, 6], [10 ** 17, FAR, -10]])
        self.assertEqual(given[3:6], [EMPTY, EMPTY, [10 ** 17, 9, 10]])
        self.assertEqual(given[7], [166666666666666666, 4 + 6 * 166666666666666665, -6])
        given = run(set_length(LIMIT), assign(1, "4::6"), assign(2, "8::10"), intersect(3, 1, 2), intersect(4, 2, 1))
        self.assertEqual(given[3:], [[33333333333333333, 28, 30]] * 2)


if __name__ == "__main__":
    unittest.main()
