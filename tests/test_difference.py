"""difference, held against the elements of p that are left, in their order."""

import itertools
import unittest

from tests.calls import (
    EMPTY, LIMIT, as_progression, assign, canonical, difference, get, get_all, intersect, members, notation_of, reverse, run,
    run_groups, set_length, small_progressions,
)

FAR = 10 ** 18 - 1
REFUSED = [-14]


def left(p, q):
    return as_progression([number for number in members(p) if number not in members(q)])


class SmallProgressions(unittest.TestCase):
    def test_all_pairs(self):
        pairs = list(itertools.product(small_progressions(8), repeat=2))
        groups = [[assign(1, notation_of(p)), assign(2, notation_of(q)), assign(3, "1:7:2"), difference(3, 1, 2), get(3)]
                  for p, q in pairs]
        for (p, q), given in zip(pairs, run_groups([set_length(8)], groups)):
            found = left(p, q)
            kept = [3, 1, 2] if found == REFUSED else found
            self.assertEqual(given, [list(p), list(q), [3, 1, 2], found, kept], (p, q))

    def test_longer_ones(self):
        texts = [f"{first}:{stop}:{size}" for first, stop in ((0, 60), (3, 30), (6, 55), (29, 60))
                 for size in (1, 2, 3, 4, 6, 9, 12)]
        texts += [f"{first}:{stop}:{size}" for first, stop in ((59, 3), (33, 0), (24, 5)) for size in (-1, -2, -3, -6)]
        texts += ["30:31", "0:1", "59:60", "7:7"]
        groups = [[assign(1, one), assign(2, two), difference(3, 1, 2)] for one in texts for two in texts]
        for p, q, answer in run_groups([set_length(60)], groups):
            self.assertEqual(answer, left(p, q), (p, q))

    def test_into_the_register_of_p_or_q(self):
        texts = ["4:4", "6:7", "7:8", ":", "::-1", "1::2", "::-2", "::2", "::3", "10:1:-3", "2:9", "8:"]
        for one, two in itertools.product(texts, repeat=2):
            setup = [set_length(12), assign(1, one), assign(2, two)]
            p, q, found = run(*setup, difference(3, 1, 2))[1:]
            self.assertEqual(found, left(p, q))
            given = run(*setup, difference(1, 1, 2), get(1), get(2))
            self.assertEqual(given[3:], [found, p if found == REFUSED else found, q])
            given = run(*setup, difference(2, 1, 2), get(1), get(2))
            self.assertEqual(given[3:], [found, p, q if found == REFUSED else found])
            self.assertEqual(run(*setup, difference(1, 1, 1), get(1), get(2))[3:], [EMPTY, EMPTY, q])


class Edges(unittest.TestCase):
    def hold(self, n, one, two, found):
        """The difference, also with p in the opposite order and with q in the opposite order."""
        given = run(
            set_length(n), assign(1, one), assign(2, two), reverse(3, 1), reverse(4, 2), difference(5, 1, 2),
            difference(6, 1, 4), difference(7, 3, 2), reverse(7, 7), difference(3, 3, 4))
        turned = found if found == REFUSED else canonical(members(found)[::-1])
        self.assertEqual(given[5:8], [found, found, turned], (one, two))
        self.assertEqual(given[9], turned, (one, two))

    def test_nothing_removed(self):
        self.hold(10, ":", "5:5", [10, 0, 1])
        self.hold(10, "5:5", ":", EMPTY)
        self.hold(10, "5:5", "9:2", EMPTY)
        self.hold(10, "8::-2", "9::-2", [5, 8, -2])
        self.hold(10, "3:4", "4:5", [1, 3, 1])
        self.hold(10, "::3", "1:9:4", [4, 0, 3])

    def test_all_removed(self):
        for one, two in ((":", ":"), ("::-2", ":"), ("3:4", "3:4"), ("3:4", "::3"), ("2:9:6", "::2"), ("::9", "::-9")):
            self.hold(10, one, two, EMPTY)

    def test_a_piece_at_the_front(self):
        self.hold(10, ":", ":4", [6, 4, 1])
        self.hold(10, ":", "0:1", [9, 1, 1])
        self.hold(30, "1::3", ":12", [6, 13, 3])
        self.hold(30, "28::-3", "15:", [5, 13, -3])
        self.hold(30, "1::3", "4:12", REFUSED)

    def test_a_piece_at_the_back(self):
        self.hold(10, ":", "7:", [7, 0, 1])
        self.hold(10, ":", "-1:", [9, 0, 1])
        self.hold(30, "1::3", "15:", [5, 1, 3])
        self.hold(30, "28::-3", ":12", [6, 28, -3])

    def test_a_piece_in_the_middle(self):
        self.hold(10, ":", "4:6", REFUSED)
        self.hold(10, ":", "4:5", REFUSED)
        self.hold(10, ":", "1:9", [2, 0, 9])
        self.hold(10, "1::2", "3:8", [2, 1, 8])
        self.hold(10, "0:7:3", "3:4", [2, 0, 6])
        self.hold(10, "0:7:2", "2:3", REFUSED)
        self.hold(10, "0:5", "1:2", REFUSED)

    def test_every_second_element(self):
        self.hold(10, ":", "::2", [5, 1, 2])
        self.hold(10, ":", "1::2", [5, 0, 2])
        self.hold(11, ":", "1::2", [6, 0, 2])
        self.hold(11, ":", "::2", [5, 1, 2])
        self.hold(30, "1::3", "4::6", [5, 1, 6])
        self.hold(30, "29::-3", "26::-6", [5, 29, -6])
        self.hold(30, ":", "2::2", REFUSED)
        self.hold(30, ":", ":28:2", REFUSED)
        self.hold(30, ":", "::3", REFUSED)

    def test_one_or_two_left(self):
        self.hold(10, ":", "1:", [1, 0, 1])
        self.hold(10, ":", ":9", [1, 9, 1])
        self.hold(10, "0:7:3", "::6", [1, 3, 1])
        self.hold(10, ":", "2:", [2, 0, 1])
        self.hold(10, ":", ":8", [2, 8, 1])
        self.hold(10, "9::-1", "::-9", [8, 8, -1])
        self.hold(10, "::3", "3:4", REFUSED)
        self.hold(10, "::3", "::6", [2, 3, 6])
        self.hold(10, "0:5", "0:5:2", [2, 1, 2])
        self.hold(10, "0:4", "0:4:3", [2, 1, 1])

    def test_both_ends_removed(self):
        self.hold(10, ":", "::9", [8, 1, 1])
        self.hold(10, "::3", "::9", [2, 3, 3])
        self.hold(13, "::2", "::12", [5, 2, 2])
        self.hold(13, ":", "::4", REFUSED)
        self.hold(13, ":", "::6", REFUSED)

    def test_a_failing_call_changes_nothing(self):
        setup = [set_length(20), assign(1, "::3"), assign(2, "4::-2"), assign(3, "9:10"), assign(4, "4:4")]
        before = run(*setup, *get_all(), assign(7, ":"))
        for call in (difference(0, 0, 1), difference(1, 0, 1), difference(4, 1, 3), difference(3, 1, 3), difference(2, 2, 8),
                     difference(-1, 0, 0)):
            given = run(*setup, call, *get_all(), assign(7, ":"))
            self.assertEqual(given[5], [-10] if 8 in call or -1 in call else REFUSED)
            self.assertEqual(given[:5] + given[6:], before, call)


class LongestSequences(unittest.TestCase):
    def hold(self, one, two, found):
        given = run(set_length(LIMIT), assign(1, one), assign(2, two), difference(3, 1, 2))
        self.assertEqual(given[3], found, (one, two))

    def test_rows_of_many(self):
        self.hold(":", "::2", [LIMIT // 2, 1, 2])
        self.hold("::-1", "::2", [LIMIT // 2, FAR, -2])
        self.hold("::-1", "::-2", [LIMIT // 2, FAR - 1, -2])
        self.hold(":", "::3", REFUSED)
        self.hold(":", "::1000003", REFUSED)
        self.hold("::3", "::-6", [(FAR - 6) // 6 + 2, 0, 6])
        self.hold("5::1000003", "1000008::2000006", [(999997000009 + 1) // 2, 5, 2000006])
        self.hold("5::1000003", "3::1000005", REFUSED)
        self.hold("::2", "1::2", [LIMIT // 2, 0, 2])

    def test_pieces(self):
        self.hold(":", "1:", [1, 0, 1])
        self.hold(":", ":-1", [1, FAR, 1])
        self.hold(":", "1:-1", [2, 0, FAR])
        self.hold("::-1", "1:-1", [2, FAR, -FAR])
        self.hold(":", "500000000000000000:", [LIMIT // 2, 0, 1])
        self.hold("::-1", "500000000000000000:", [LIMIT // 2, LIMIT // 2 - 1, -1])
        self.hold(":", f"::{FAR}", [FAR - 1, 1, 1])
        self.hold(":", "500000000000000000:500000000000000001", REFUSED)
        self.hold(":", "-1:", [FAR, 0, 1])
        self.hold(":", "-2:-1", REFUSED)
        self.hold(f"::-{FAR}", "0:1", [1, FAR, 1])
        self.hold("::333333333333333333", "333333333333333333:333333333333333334", REFUSED)
        self.hold("::333333333333333333", f"::{FAR}", [2, FAR // 3, FAR // 3])
        self.hold(":", "::-1", EMPTY)

    def test_has_nothing_of_q_and_all_the_rest(self):
        texts = [f"{first}::{size}" for first in (0, 1, 6, LIMIT // 2) for size in (1, 2, 3, 4, 6, 1000003, LIMIT // 2, FAR)]
        texts += [f"-{first}::-{size}" for first in (1, 2, 7) for size in (1, 2, 3, 6, LIMIT // 4)] + ["5:5", "-1:", "3:4"]
        groups = [[assign(1, one), assign(2, two), intersect(3, 1, 2), difference(4, 1, 2), intersect(5, 4, 2),
                   intersect(6, 1, 4)] for one in texts for two in texts]
        for p, q, both, found, none, back in run_groups([set_length(LIMIT)], groups):
            if found != REFUSED:
                self.assertEqual(found[0], p[0] - both[0], (p, q))
                self.assertEqual((none, back), (EMPTY, found), (p, q))


if __name__ == "__main__":
    unittest.main()
