"""assign and slice: which indices a slice selects, of a sequence and of a selection."""

import itertools
import unittest

from tests.calls import (
    EMPTY, LIMIT, assign, canonical, get, members, notation, notation_of, run, run_groups, set_length, slice_of,
    small_progressions,
)

FAR = 10 ** 18 - 1


def clamp(x, low, high, n):
    y = x + n if x < 0 else x
    return min(max(y, low), high)


def selected(start, stop, step, n):
    """The indices that the document's own steps select, one by one."""
    step = 1 if step is None else step
    found = []
    if step > 0:
        index = 0 if start is None else clamp(start, 0, n, n)
        end = n if stop is None else clamp(stop, 0, n, n)
        while index < end:
            found.append(index)
            index += step
    else:
        index = n - 1 if start is None else clamp(start, -1, n - 1, n)
        end = -1 if stop is None else clamp(stop, -1, n - 1, n)
        while index > end:
            found.append(index)
            index += step
    return found


def bounds(n):
    return [None, -FAR, *range(-n - 2, n + 3), FAR]


def steps(n):
    return [None, -FAR, *[step for step in range(-n - 1, n + 2) if step != 0], FAR]


class Assign(unittest.TestCase):
    def test_all_small_slices(self):
        for n in range(7):
            cuts = list(itertools.product(bounds(n), bounds(n), steps(n)))
            given = run_groups([set_length(n)], [[assign(1, notation(*cut))] for cut in cuts])
            for cut, (answer,) in zip(cuts, given):
                indices = selected(*cut, n)
                self.assertTrue(all(0 <= index < n for index in indices))
                self.assertEqual(answer, canonical(indices), (cut, n))

    def test_all_small_slices_as_python_has_them(self):
        for n in (5, 6):
            cuts = list(itertools.product(bounds(n), bounds(n), steps(n)))
            given = run_groups([set_length(n)], [[assign(1, notation(*cut))] for cut in cuts])
            for cut, (answer,) in zip(cuts, given):
                self.assertEqual(answer, canonical(range(n)[slice(*cut)]), (cut, n))

    def test_longest_sequences(self):
        for n in (LIMIT, LIMIT - 1, LIMIT // 2):
            places = [None, 0, 1, 7, n // 2, FAR, -1, -2, -n // 3, -FAR]
            sizes = [None, 1, 2, 3, 10 ** 9 + 7, n // 2, FAR, -1, -2, -5, -(10 ** 9) - 9, -(n // 2), -FAR]
            cuts = list(itertools.product(places, places, sizes))
            given = run_groups([set_length(n)], [[assign(0, notation(*cut))] for cut in cuts])
            for cut, (answer,) in zip(cuts, given):
                self.assertEqual(answer, canonical(range(n)[slice(*cut)]), (cut, n))
                if answer[0]:
                    self.assertLessEqual(0, min(answer[1], answer[1] + (answer[0] - 1) * answer[2]))
                    self.assertLess(max(answer[1], answer[1] + (answer[0] - 1) * answer[2]), n)

    def test_longest_sequence_by_hand(self):
        given = run(
            set_length(LIMIT), assign(0, ":"), assign(0, "::-1"), assign(0, "-1:"), assign(0, "999999999999999999:"),
            assign(0, "-999999999999999999:"), assign(0, ":1"), assign(0, "::999999999999999999"),
            assign(0, "::-999999999999999999"), assign(0, "1::999999999999999999"),
        )
        self.assertEqual(given[1:], [
            [LIMIT, 0, 1], [LIMIT, FAR, -1], [1, FAR, 1], [1, FAR, 1], [FAR, 1, 1], [1, 0, 1], [2, 0, FAR],
            [2, FAR, -FAR], [1, 1, 1],
        ])

    def test_empty_results_are_canonical(self):
        texts = ["5:5", "9:-20", "7:3", "3:7:-1", "10:", ":0:2", "::-3", "99:", ":-99:5", "-99::-7", "4:4:-9", "2:2:9"]
        for text in texts:
            with self.subTest(text=text):
                n = 0 if text == "::-3" else 10
                self.assertEqual(run(set_length(n), assign(3, text), get(3)), [[n], EMPTY, EMPTY])

    def test_results_of_one_are_canonical(self):
        for text, index in (("8:2:-9", 8), ("9::5", 9), ("0::-4", 0), ("3:4:7", 3), ("-1:", 9), ("::-10", 9), ("::10", 0)):
            with self.subTest(text=text):
                self.assertEqual(run(set_length(10), assign(3, text), get(3))[1:], [[1, index, 1]] * 2)

    def test_the_length_counts_and_not_the_register(self):
        given = run(set_length(10), assign(1, "4:4"), assign(1, "::-5"), assign(1, "1:3"), assign(1, ":"))
        self.assertEqual(given[1:], [EMPTY, [2, 9, -5], [2, 1, 1], [10, 0, 1]])

    def test_stored_and_returned_alike(self):
        texts = ["2:9:3", "::-4", "5:5", "8:2:-9", "-3:"]
        given = run_groups([set_length(10)], [[assign(7, text), get(7)] for text in texts])
        for returned, stored in given:
            self.assertEqual(returned, stored)


class SliceOfProgression(unittest.TestCase):
    def test_all_slices_of_small_progressions(self):
        cuts = list(itertools.product([None, -99, -4, -2, -1, 0, 1, 3, 99], [None, -99, -3, -1, 0, 2, 4, 99],
                                      [None, -99, -2, -1, 1, 2, 3, 99]))
        for source in small_progressions(5):
            setup = [set_length(5), assign(1, notation_of(source))]
            self.assertEqual(run(*setup)[1], list(source))
            given = run_groups(setup, [[slice_of(2, 1, notation(*cut)), get(1)] for cut in cuts])
            for cut, (answer, kept) in zip(cuts, given):
                found = [members(source)[position] for position in selected(*cut, source[0])]
                self.assertEqual(answer, canonical(found), (source, cut))
                self.assertEqual(kept, list(source))

    def test_slices_of_slices(self):
        texts = ["::2", "::-1", "1:", ":-1", "1:-1", "::-3", "5:1:-2", "-4::3"]
        chains = list(itertools.product(texts, repeat=3))
        for n in (11, LIMIT):
            groups = [[assign(1, one), slice_of(2, 1, two), slice_of(3, 2, three)] for one, two, three in chains]
            for chain, answered in zip(chains, run_groups([set_length(n)], groups)):
                held = range(n)
                for text, answer in zip(chain, answered):
                    held = held[slice(*[int(part) if part else None for part in text.split(":")])]
                    self.assertEqual(answer, canonical(held), (n, chain))

    def test_of_an_empty_progression(self):
        for text in (":", "::-1", "0:", "-1:", ":5:2", "5::-3", "::999999999999999999"):
            given = run(set_length(10), assign(1, "4:4"), slice_of(2, 1, text), get(2))
            self.assertEqual(given[2:], [EMPTY, EMPTY], text)

    def test_of_one_element(self):
        for text, found in ((":", [1, 6, 1]), ("::-1", [1, 6, 1]), ("-1:", [1, 6, 1]), ("::-7", [1, 6, 1]),
                            ("0:1:9", [1, 6, 1]), ("1:", EMPTY), (":-1", EMPTY), ("0:0", EMPTY), (":0:-1", EMPTY)):
            given = run(set_length(10), assign(1, "6:7"), slice_of(2, 1, text))
            self.assertEqual(given[2], found, text)

    def test_of_one_that_runs_downwards(self):
        given = run(
            set_length(10), assign(1, "::-2"), slice_of(2, 1, ":"), slice_of(2, 1, "1:4"), slice_of(2, 1, "::-1"),
            slice_of(2, 1, "::-2"), slice_of(2, 1, "::3"), slice_of(2, 1, "-2:"), slice_of(2, 1, "4:"),
        )
        self.assertEqual(given[1:], [
            [5, 9, -2], [5, 9, -2], [3, 7, -2], [5, 1, 2], [3, 1, 4], [2, 9, -6], [2, 3, -2], [1, 1, 1]])

    def test_into_its_own_register(self):
        given = run(
            set_length(100), assign(1, "3::7"), slice_of(1, 1, "::-2"), get(1), slice_of(1, 1, "1:-1"), get(1),
            slice_of(1, 1, "::99"), get(1), slice_of(1, 1, "1:"), get(1),
        )
        self.assertEqual(given[2:], [
            [7, 94, -14], [7, 94, -14], [5, 80, -14], [5, 80, -14], [1, 80, 1], [1, 80, 1], EMPTY, EMPTY])

    def test_of_the_longest_sequence(self):
        given = run(
            set_length(LIMIT), assign(1, "::-2"), slice_of(2, 1, "::-3"), slice_of(3, 2, "166666666666666666:"),
            slice_of(4, 1, "::499999999999999999"), slice_of(5, 4, "::-1"),
        )
        self.assertEqual(given[1:], [
            [LIMIT // 2, FAR, -2], [166666666666666667, 1, 6], [1, 999999999999999997, 1], [2, FAR, -FAR + 1],
            [2, 1, FAR - 1],
        ])

    def test_the_register_counts_and_not_the_length(self):
        given = run(set_length(10), assign(1, "2:5"), slice_of(2, 1, "-1:"), slice_of(3, 1, "5:"), slice_of(4, 1, "::-1"))
        self.assertEqual(given[2:], [[1, 4, 1], EMPTY, [3, 4, -1]])


if __name__ == "__main__":
    unittest.main()
