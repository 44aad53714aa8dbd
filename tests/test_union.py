"""union, held against the sorted elements of both."""

import itertools
import unittest

from tests.calls import (
    EMPTY, LIMIT, as_progression, assign, get, get_all, intersect, members, notation_of, reverse, run, run_groups,
    set_length, small_progressions, union,
)

FAR = 10 ** 18 - 1
REFUSED = [-14]


def joined(p, q):
    return as_progression(sorted(set(members(p)) | set(members(q))))


class SmallProgressions(unittest.TestCase):
    def test_all_pairs(self):
        pairs = list(itertools.product(small_progressions(8), repeat=2))
        groups = [[assign(1, notation_of(p)), assign(2, notation_of(q)), assign(3, "1:7:2"), union(3, 1, 2), get(3)]
                  for p, q in pairs]
        for (p, q), given in zip(pairs, run_groups([set_length(8)], groups)):
            found = joined(p, q)
            kept = [3, 1, 2] if found == REFUSED else found
            self.assertEqual(given, [list(p), list(q), [3, 1, 2], found, kept], (p, q))

    def test_longer_ones(self):
        texts = [f"{first}:{stop}:{size}" for first, stop in ((0, 60), (3, 30), (6, 55), (29, 60))
                 for size in (1, 2, 3, 4, 6, 9, 12)]
        texts += [f"{first}:{stop}:{size}" for first, stop in ((59, 3), (33, 0), (24, 5)) for size in (-1, -2, -3, -6)]
        texts += ["30:31", "0:1", "59:60", "7:7"]
        groups = [[assign(1, one), assign(2, two), union(3, 1, 2)] for one in texts for two in texts]
        for p, q, answer in run_groups([set_length(60)], groups):
            self.assertEqual(answer, joined(p, q), (p, q))

    def test_into_the_register_of_p_or_q(self):
        texts = ["4:4", "6:7", "7:8", ":", "::-1", "1::2", "::-2", "::2", "::3", "10:1:-3", "2:9"]
        for one, two in itertools.product(texts, repeat=2):
            setup = [set_length(12), assign(1, one), assign(2, two)]
            p, q, found = run(*setup, union(3, 1, 2))[1:]
            self.assertEqual(found, joined(p, q))
            self.assertEqual(run(*setup, union(1, 1, 2), get(1), get(2))[3:], [found, p if found == REFUSED else found, q])
            self.assertEqual(run(*setup, union(2, 1, 2), get(1), get(2))[3:], [found, p, q if found == REFUSED else found])
            self.assertEqual(run(*setup, union(1, 1, 1), get(1), get(2))[3:], [joined(p, p)] * 2 + [q])


class Edges(unittest.TestCase):
    def hold(self, n, one, two, found):
        given = run(
            set_length(n), assign(1, one), assign(2, two), reverse(3, 1), reverse(4, 2), union(5, 1, 2), union(6, 2, 1),
            union(7, 3, 2), union(6, 1, 4), union(5, 4, 3))
        self.assertEqual(given[5:], [found] * 5, (one, two))

    def test_zero_one_and_two_elements(self):
        self.hold(10, "5:5", "9:2", EMPTY)
        self.hold(10, "5:5", "7:8", [1, 7, 1])
        self.hold(10, "7:8", "7:8", [1, 7, 1])
        self.hold(10, "7:8", "0:1", [2, 0, 7])
        self.hold(10, "3:4", "4:5", [2, 3, 1])
        self.hold(10, "::9", "0:1", [2, 0, 9])
        self.hold(10, "::9", "::9", [2, 0, 9])

    def test_an_empty_operand(self):
        for text, found in ((":", [10, 0, 1]), ("::-1", [10, 0, 1]), ("9::-4", [3, 1, 4]), ("8::-8", [2, 0, 8])):
            self.hold(10, "5:5", text, found)

    def test_the_order_is_increasing(self):
        self.hold(10, "9:4:-1", "4::-1", [10, 0, 1])
        self.hold(10, "::-3", "::-3", [4, 0, 3])

    def test_one_within_the_other(self):
        self.hold(30, "::2", "::6", [15, 0, 2])
        self.hold(30, "::3", "9:22:6", [10, 0, 3])
        self.hold(30, "4:20:5", "9:10", [4, 4, 5])

    def test_overlaps_and_rows_of_two(self):
        self.hold(30, "1:14:3", "10:29:3", [10, 1, 3])
        self.hold(30, "1:11:3", "13:29:3", [10, 1, 3])
        self.hold(30, "1:11:3", "16:29:3", REFUSED)
        self.hold(30, "1:11:3", "12:29:3", REFUSED)

    def test_interleaving_to_a_smaller_step(self):
        self.hold(30, "::2", "1::2", [30, 0, 1])
        self.hold(30, "0:20:6", "3:20:6", [7, 0, 3])
        self.hold(30, "3:12:8", "7:16:8", [4, 3, 4])
        self.hold(30, "0:20:6", "2:20:6", REFUSED)
        self.hold(30, "0:20:6", "9:22:6", REFUSED)
        self.hold(30, "::3", "1::3", REFUSED)
        self.hold(30, "0:17:4", "2:27:4", REFUSED)
        self.hold(30, "::2", "::3", REFUSED)

    def test_two_elements_that_meet_the_other(self):
        self.hold(30, "0:9:8", "2:7:2", [5, 0, 2])
        self.hold(30, "0:9:8", "4:9:4", [3, 0, 4])
        self.hold(30, "0:13:12", "3:10:3", [5, 0, 3])
        self.hold(30, "0:13:12", "4:9:2", REFUSED)

    def test_a_single_element(self):
        self.hold(30, "10:17:3", "19:20", [4, 10, 3])
        self.hold(30, "10:17:3", "7:8", [4, 7, 3])
        self.hold(30, "10:15:4", "12:13", [3, 10, 2])
        self.hold(30, "10:17:3", "13:14", [3, 10, 3])
        self.hold(30, "10:12", "12:13", [3, 10, 1])
        self.hold(30, "10:17:3", "18:19", REFUSED)
        self.hold(30, "10:17:3", "22:23", REFUSED)
        self.hold(30, "10:17:3", "14:15", REFUSED)
        self.hold(30, "10:17:6", "14:15", REFUSED)
        self.hold(30, "10:15:4", "13:14", REFUSED)

    def test_a_failing_call_changes_nothing(self):
        setup = [set_length(20), assign(1, "::3"), assign(2, "::-2"), assign(3, "7:8"), assign(4, "4:4")]
        before = run(*setup, *get_all(), assign(7, ":"))
        for call in (union(0, 1, 2), union(1, 1, 2), union(2, 1, 2), union(4, 1, 3), union(1, 8, 2), union(-1, 0, 0)):
            given = run(*setup, call, *get_all(), assign(7, ":"))
            self.assertEqual(given[5], [-10] if 8 in call or -1 in call else REFUSED)
            self.assertEqual(given[:5] + given[6:], before, call)


class LongestSequences(unittest.TestCase):
    def hold(self, one, two, found):
        given = run(set_length(LIMIT), assign(1, one), assign(2, two), union(3, 1, 2), union(4, 2, 1))
        self.assertEqual(given[3:], [found] * 2, (one, two))

    def test_rows_of_many(self):
        self.hold("::2", "1::2", [LIMIT, 0, 1])
        self.hold("::-2", ":-1:2", [LIMIT, 0, 1])
        self.hold("::-1", "3::1000003", [LIMIT, 0, 1])
        self.hold("::3", "1::3", REFUSED)
        self.hold("::2", "1:-2:2", [FAR, 0, 1])
        self.hold("::2", "1:-3:2", REFUSED)
        self.hold("2::2", "1:-2:2", [FAR - 1, 1, 1])
        self.hold("::6", "3::6", [(FAR - 3) // 3 + 2, 0, 3])
        self.hold("5::1000003", "3::1000005", REFUSED)
        self.hold("5::1000003", "1000008:999999999999999999:2000006", [999997000009, 5, 1000003])

    def test_far_ends(self):
        self.hold(f"::{FAR}", "0:1", [2, 0, FAR])
        self.hold("-1:", "0:1", [2, 0, FAR])
        self.hold(f"::{FAR}", "333333333333333333:666666666666666667:333333333333333333", [4, 0, FAR // 3])
        self.hold(f"::{FAR}", "1:-1", [LIMIT, 0, 1])
        self.hold(f"::{FAR}", "2:-1", REFUSED)
        self.hold(f"::{FAR - 1}", "499999999999999999:500000000000000000", [3, 0, FAR // 2])
        self.hold(f"::{FAR - 1}", "499999999999999998:499999999999999999", REFUSED)
        self.hold("1:", "0:1", [LIMIT, 0, 1])
        self.hold(":-1", "-1:", [LIMIT, 0, 1])
        self.hold(":-2", "-1:", REFUSED)

    def test_parts_of_one_whole(self):
        for size in (2, 7, 1000003, LIMIT // 9):
            count = len(range(3, LIMIT, size))
            for cut in (2, 3, count // 2, count - 2):
                place = 3 + cut * size
                self.hold(f"3:{place}:{size}", f"{place}::{size}", [count, 3, size])
                self.hold(f"3:{place}:{size}", f"{place + 1}:-1:{size}", REFUSED)
                self.hold(f"3:{place - size}:{size}", f"{place}::{size}", REFUSED)

    def test_contains_both_and_no_more(self):
        texts = [f"{first}::{size}" for first in (0, 1, 6, LIMIT // 2) for size in (1, 2, 3, 4, 6, 1000003, LIMIT // 2, FAR)]
        texts += [f"-{first}::-{size}" for first in (1, 2, 7) for size in (1, 2, 3, 6, LIMIT // 4)] + ["5:5", "-1:", "3:4"]
        groups = [[assign(1, one), assign(2, two), intersect(3, 1, 2), union(4, 1, 2), intersect(5, 4, 1), intersect(6, 4, 2)]
                  for one in texts for two in texts]
        for p, q, both, found, one, other in run_groups([set_length(LIMIT)], groups):
            if found != REFUSED:
                self.assertEqual(found[0], p[0] + q[0] - both[0], (p, q))
                self.assertEqual((one[0], other[0]), (p[0], q[0]), (p, q))
                self.assertGreater(found[2], 0)


if __name__ == "__main__":
    unittest.main()
