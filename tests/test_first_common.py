"""first_common, held against a plain count: the least common element, or why there is none."""

import itertools
import math
import unittest

from tests.calls import (
    LIMIT, assign, first_common, intersect, members, notation_of, reverse, run, run_groups, set_length, small_progressions,
)

FAR = 10 ** 18 - 1


def counted(p, q):
    """The answer that the document asks for, found by going through the elements and the numbers above them."""
    one, other = members(p), members(q)
    both = set(one) & set(other)
    if both:
        return [1, min(both)]
    if not one or not other:
        return [0, 1]
    if max(one) < min(other) or max(other) < min(one):
        return [0, 2]
    p_step, q_step = [abs(step) if count > 1 else 0 for count, first, step in (p, q)]
    divisor = math.gcd(p_step, q_step)
    if min(one) % divisor != min(other) % divisor:
        return [0, 3, divisor, min(one) % divisor, min(other) % divisor]
    number = max(min(one), min(other))
    while (number - min(one)) % p_step != 0 or (number - min(other)) % q_step != 0:
        number += 1
    return [0, 4, number]


def ends(progression):
    count, first, step = progression
    return sorted([first, first + (count - 1) * step])


class SmallProgressions(unittest.TestCase):
    def test_all_pairs(self):
        pairs = list(itertools.product(small_progressions(9), repeat=2))
        groups = [[assign(1, notation_of(p)), assign(2, notation_of(q)), first_common(1, 2)] for p, q in pairs]
        seen = set()
        for (p, q), given in zip(pairs, run_groups([set_length(9)], groups)):
            self.assertEqual(given, [list(p), list(q), counted(p, q)], (p, q))
            seen.add(tuple(given[2][:2]) if given[2][0] == 0 else (1,))
        self.assertEqual(seen, {(1,), (0, 1), (0, 2), (0, 3), (0, 4)})

    def test_longer_ones(self):
        texts = [f"{first}:{stop}:{size}" for first, stop in ((0, 99), (1, 60), (5, 30), (41, 80))
                 for size in (1, 2, 4, 6, 9, 10, 14, 15, 25)]
        texts += [f"{first}:{stop}:{size}" for first, stop in ((98, 0), (61, 3), (47, 20)) for size in (-1, -3, -6, -8, -35)]
        texts += ["30:31", "0:1", "98:99", "7:7"]
        groups = [[assign(1, one), assign(2, two), first_common(1, 2), intersect(3, 1, 2)] for one in texts for two in texts]
        for p, q, answer, shared in run_groups([set_length(99)], groups):
            self.assertEqual(answer, counted(p, q), (p, q))
            self.assertEqual(answer[0], int(shared[0] > 0), (p, q))


class Reasons(unittest.TestCase):
    def hold(self, n, one, two, answer, swapped=None):
        """The answer for the two in this order, and in the other; the directions do not matter."""
        given = run(
            set_length(n), assign(1, one), assign(2, two), reverse(3, 1), reverse(4, 2), first_common(1, 2),
            first_common(1, 4), first_common(3, 2), first_common(3, 4), first_common(2, 1), first_common(4, 3))
        self.assertEqual(given[5:9], [answer] * 4, (one, two))
        self.assertEqual(given[9:], [swapped or answer] * 2, (one, two))

    def test_least_in_common(self):
        self.hold(30, "::2", "::3", [1, 0])
        self.hold(30, "1::2", "::3", [1, 3])
        self.hold(30, "::-4", "::-6", [1, 5])
        self.hold(30, ":", ":", [1, 0])
        self.hold(30, "29:", ":", [1, 29])
        self.hold(30, "5:6", "5:6", [1, 5])

    def test_empty(self):
        for text in (":", "3:4", "5:5", "::-7"):
            self.hold(10, "4:4", text, [0, 1])

    def test_apart(self):
        self.hold(10, ":5", "5:", [0, 2])
        self.hold(10, "0:1", "9:", [0, 2])
        self.hold(10, "3:4", "4:5", [0, 2])
        self.hold(10, "4:0:-2", "9:4:-4", [0, 2])

    def test_apart_comes_before_residues_and_reach(self):
        self.hold(30, ":9:4", "11::4", [0, 2])
        self.hold(30, ":9:4", "10::3", [0, 2])
        self.hold(30, "2:3", "3::2", [0, 2])

    def test_residues(self):
        self.hold(10, "::2", "1::2", [0, 3, 2, 0, 1], [0, 3, 2, 1, 0])
        self.hold(40, "1::6", "3::10", [1, 13])
        self.hold(40, "1::6", "2::10", [0, 3, 2, 1, 0], [0, 3, 2, 0, 1])
        self.hold(40, "7::6", "9::9", [0, 3, 3, 1, 0], [0, 3, 3, 0, 1])
        self.hold(90, "80::-12", "77::-18", [0, 3, 6, 2, 5], [0, 3, 6, 5, 2])

    def test_residues_come_before_reach(self):
        self.hold(40, "0:20:12", "5:30:18", [0, 3, 6, 0, 5], [0, 3, 6, 5, 0])

    def test_residues_of_one_element(self):
        self.hold(10, "4:5", "1::2", [0, 3, 2, 0, 1], [0, 3, 2, 1, 0])
        self.hold(30, "14:15", "3::7", [0, 3, 7, 0, 3], [0, 3, 7, 3, 0])
        self.hold(30, "25:26", "26::-4", [0, 3, 4, 1, 2], [0, 3, 4, 2, 1])
        self.hold(30, "9:10", "0::29", [0, 3, 29, 9, 0], [0, 3, 29, 0, 9])

    def test_two_of_one_element(self):
        for one, other in itertools.product((0, 1, 2, 6, 29), repeat=2):
            self.hold(30, f"{one}:{one + 1}", f"{other}:{other + 1}", [1, one] if one == other else [0, 2])

    def test_least_residues_of_downward_progressions(self):
        given = run(set_length(100), assign(1, "97:40:-10"), assign(2, "95:20:-15"), first_common(1, 2), first_common(2, 1))
        self.assertEqual(given[1:], [[6, 97, -10], [5, 95, -15], [0, 3, 5, 2, 0], [0, 3, 5, 0, 2]])

    def test_out_of_reach(self):
        self.hold(30, "0:4:3", "1:6:4", [0, 4, 9])
        self.hold(30, "0:13:12", "2:20:10", [1, 12])
        self.hold(30, "0:29:24", "4:29:20", [1, 24])
        self.hold(30, "0:25:24", "4:10:5", [0, 4, 24])
        self.hold(30, "2:29:26", "3:29:25", [1, 28])
        self.hold(30, "1:29:27", "2:29:25", [0, 4, 352])

    def test_out_of_reach_below_the_upper_end_of_one(self):
        self.hold(99, "0:13:4", "2::17", [0, 4, 36])
        self.hold(99, "::-30", "4:40:16", [0, 4, 68])


class LongestSequences(unittest.TestCase):
    def hold_properties(self, p, q, answer, shared):
        low, high = max(ends(p)[0], ends(q)[0]), min(ends(p)[1], ends(q)[1])
        self.assertEqual(answer[0], int(shared[0] > 0), (p, q))
        if answer[0] == 1:
            self.assertEqual(answer, [1, ends(shared)[0]], (p, q))
            return
        self.assertEqual(answer[1] == 2, low > high, (p, q))
        sizes = [abs(step) if count > 1 else 0 for count, first, step in (p, q)]
        if answer[1] == 3:
            divisor = math.gcd(*sizes)
            self.assertEqual(answer[2:], [divisor, ends(p)[0] % divisor, ends(q)[0] % divisor], (p, q))
            self.assertNotEqual(answer[3], answer[4], (p, q))
        if answer[1] == 4:
            self.assertEqual([(answer[2] - ends(one)[0]) % size for one, size in zip((p, q), sizes)], [0, 0], (p, q))
            self.assertGreater(answer[2], high, (p, q))
            self.assertLess(answer[2], low + math.lcm(*sizes), (p, q))
            self.assertLess(answer[2], 10 ** 37)

    def test_many_pairs(self):
        sizes = [FAR, FAR - 1, LIMIT // 2 - 1, LIMIT // 3, LIMIT // 7 + 1, LIMIT // 100, 1000003, 1000005, 6, 1]
        texts = [f"{first}::{size}" for first in (0, 1, 10, LIMIT // 100, LIMIT // 2) for size in sizes]
        texts += [f"{-1 - first}::-{size}" for first in (0, 2, LIMIT // 100) for size in sizes] + ["5:5", "-1:"]
        groups = [[assign(1, one), assign(2, two), first_common(1, 2), intersect(3, 1, 2)] for one in texts for two in texts]
        reasons = set()
        for p, q, answer, shared in run_groups([set_length(LIMIT)], groups):
            if p[0] and q[0]:
                self.hold_properties(p, q, answer, shared)
            else:
                self.assertEqual(answer, [0, 1])
            reasons.add(answer[1] if answer[0] == 0 else 0)
        self.assertEqual(reasons, {0, 1, 2, 3, 4})

    def test_far_beyond_the_sequence(self):
        given = run(
            set_length(LIMIT), assign(1, f"::{FAR}"), assign(2, f"1::{FAR - 2}"), first_common(1, 2), first_common(2, 1),
            assign(3, f"::-{FAR}"), assign(4, f"{FAR - 1}::-{FAR - 2}"), first_common(3, 4))
        self.assertEqual(given[3:5], [[0, 4, FAR * (FAR - 1) // 2]] * 2)
        self.assertEqual(given[7], [0, 4, FAR * (FAR - 1) // 2])

    def test_near_the_end_of_the_sequence(self):
        for one, answer in (("::3", [1, FAR]), (":-1:3", [0, 4, FAR]), ("2::3", [1, 5]), ("1::3", [0, 4, 2 * FAR - 5])):
            given = run(set_length(LIMIT), assign(1, one), assign(2, f"5::{FAR - 5}"), first_common(1, 2))
            self.assertEqual(given[3], answer, one)

    def test_one_element(self):
        given = run(
            set_length(LIMIT), assign(1, "-1:"), assign(2, "::-17"), assign(3, "::17"), first_common(1, 2), first_common(1, 3),
            assign(4, "-3:-2"), first_common(4, 2), first_common(2, 4), first_common(4, 1), first_common(1, 0))
        self.assertEqual(given[4:6], [[1, FAR], [0, 2]])
        self.assertEqual(given[7:], [
            [0, 3, 17, 12, 14], [0, 3, 17, 14, 12], [0, 2], [1, FAR]])


if __name__ == "__main__":
    unittest.main()
