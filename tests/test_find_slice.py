"""find_slice, held against a search through the slices: the shortest text, and of equal length the smaller one."""

import itertools
import unittest

from tests.calls import (
    LIMIT, as_range, assign, canonical, find_slice, get_all, members, notation, notation_of, reverse, run, run_groups,
    set_length, slice_of, small_progressions, text_answer,
)

FAR = 10 ** 18 - 1
NO_SLICE = [-15]


def integers(n):
    """None, and every integer that matters for n elements.

    One further out does what the outermost one on its side does, and its text is never preferred.
    """
    return [None, *range(-n - 1, n + 2)]


def steps(n):
    return [step for step in integers(n) if step != 0]


def best_texts(n, cuts):
    """For each part of n elements that one of these slices yields, the preferred one of their texts."""
    best = {}
    for cut in cuts:
        part = tuple(canonical(range(n)[slice(*cut)]))
        text = notation(*cut)
        if part not in best or (len(text), text) < (len(best[part]), best[part]):
            best[part] = text
    return best


def all_texts(n):
    return best_texts(n, itertools.product(integers(n), integers(n), steps(n)))


def short_cuts(n, longest):
    """Every slice of those integers whose text has at most so many bytes."""
    sized = [(0 if number is None else len(str(number)), number) for number in integers(n)]
    for (one, start), (two, stop) in itertools.product(sized, repeat=2):
        if one + two + 1 <= longest:
            yield start, stop, None
        for three, step in sized:
            if step not in (None, 0) and one + two + three + 2 <= longest:
                yield start, stop, step


class SearchCase(unittest.TestCase):
    def hold_all(self, setup, source, best):
        """Each part of the progression in register 1 has this text, and the text yields it."""
        self.assertEqual(run(*setup)[-1], source)
        parts = sorted(best)
        groups = [[slice_of(2, 1, notation_of(part)), find_slice(1, 2), slice_of(3, 1, best[part])] for part in parts]
        for part, (made, found, again) in zip(parts, run_groups(setup, groups)):
            self.assertEqual(found, text_answer(best[part]), (source, part))
            self.assertEqual(made, again, (source, part))
            self.assertEqual(members(made), [members(source)[place] for place in members(part)])


class AllSlices(SearchCase):
    def test_every_part_of_short_sequences(self):
        for n in range(14):
            best = all_texts(n)
            self.assertEqual(set(best), set(small_progressions(n)))
            self.hold_all([set_length(n), assign(1, ":")], canonical(range(n)), best)

    def test_every_part_of_other_progressions(self):
        for n, text in ((12, "::-1"), (12, "::2"), (20, "18::-2"), (40, "39::-4"), (40, "3::7"), (60, "5:60:5"), (9, "::8")):
            source = canonical(range(n)[slice(*[int(part) if part else None for part in text.split(":")])])
            self.hold_all([set_length(n), assign(1, text)], source, all_texts(source[0]))

    def test_all_pairs_of_small_progressions(self):
        small = small_progressions(7)
        texts = [all_texts(n) for n in range(8)]
        pairs = list(itertools.product(small, repeat=2))
        groups = [[assign(1, notation_of(p)), assign(2, notation_of(q)), find_slice(1, 2)] for p, q in pairs]
        for (p, q), given in zip(pairs, run_groups([set_length(7)], groups)):
            wanted = NO_SLICE
            if set(members(q)) <= set(members(p)):
                places = canonical([members(p).index(number) for number in members(q)])
                wanted = text_answer(texts[p[0]][tuple(places)])
            self.assertEqual(given, [list(p), list(q), wanted], (p, q))


class LongerSlices(SearchCase):
    """Around 100 elements the slices are too many to go through at once; a part of two elements or more has one step."""

    def test_short_texts_at_100(self):
        for n in (99, 100, 101):
            best = best_texts(n, short_cuts(n, 6))
            few = {part: text for part, text in best.items() if part[0] < 2}
            self.assertEqual(len(few), n + 1)
            many = dict(sorted(best.items())[::7])
            self.hold_all([set_length(n), assign(1, ":")], [n, 0, 1], {**few, **many})
            self.hold_all([set_length(2 * n), assign(1, "::-2")], [n, 2 * n - 1, -2], few)

    def test_parts_of_one_step_at_100(self):
        for n in (99, 100, 101):
            for step in (1, -1, 9, -9, 10, -10, 11, 48, -33, 98, -99):
                best = best_texts(n, itertools.product(integers(n), integers(n), [None if step == 1 else step]))
                many = {part: text for part, text in best.items() if part[0] > 1}
                kept = dict(sorted(many.items())[::1 + len(many) // 400])
                self.hold_all([set_length(n), assign(1, ":")], [n, 0, 1], kept)

    def test_every_text_of_four_bytes(self):
        """No text at all of up to four bytes is preferred: with spaces, leading zeros, -0 or a colon too many."""
        texts = ["".join(row) for length in range(5) for row in itertools.product("0129:- ", repeat=length)]
        for n in (0, 1, 2, 3, 9, 10, 11, 30):
            yields = run_groups([set_length(n)], [[assign(2, text), find_slice(0, 2)] for text in texts])
            for text, (part, found) in zip(texts, yields):
                if part[0] >= 0:
                    best = (found[0], bytes(found[1:]))
                    self.assertLessEqual(best, (len(text), text.encode("ascii")), (n, text))


class Edges(unittest.TestCase):
    def hold(self, n, source, made, text):
        """The part of the first slice that the second slice of it makes has this text."""
        given = run(set_length(n), assign(1, source), slice_of(2, 1, made), find_slice(1, 2), slice_of(3, 1, text))
        self.assertEqual(given[3], text_answer(text), (n, source, made))
        self.assertEqual(given[4], given[2])

    def test_omitted_parts(self):
        self.hold(50, ":", "0:50:1", ":")
        self.hold(50, ":", "0:50:2", "::2")
        self.hold(50, ":", "49::-1", "::-1")
        self.hold(50, ":", "49::-7", "::-7")
        self.hold(50, ":", "0:20", ":20")
        self.hold(50, ":", "20:50", "20:")
        self.hold(50, ":", "3:50:4", "3::4")
        self.hold(50, ":", "0:42:6", ":-8:6")
        self.hold(50, ":", "40::-3", "40::-3")

    def test_parts_that_count_from_the_end(self):
        self.hold(50, ":", "41:50", "-9:")
        self.hold(50, ":", "40:50", "40:")
        self.hold(50, ":", "0:41", ":-9")
        self.hold(50, ":", "0:40", ":40")
        self.hold(200, ":", "100:150", "100:-50")
        self.hold(200, ":", "101:151", "-99:-49")
        self.hold(200, ":", "98:99", "98:99")
        self.hold(200, ":", "150:120:-1", "-50:-80:-1")
        self.hold(200, ":", "150:99:-1", "-50:99:-1")

    def test_a_stop_that_may_be_any_of_several(self):
        self.hold(30, ":", "23:5:-4", "-7:3:-4")
        self.hold(30, ":", "0:28:9", "::9")
        self.hold(30, ":", "0:22:7", ":-2:7")
        self.hold(30, ":", "0:15:7", ":-9:7")
        self.hold(30, ":", "0:20:9", ":-3:9")
        self.hold(30, ":", "0:13:10", ":11:10")
        self.hold(30, ":", "0:13:12", ":-6:12")
        self.hold(30, ":", "::-9", "::-9")
        self.hold(30, ":", "29:8:-9", ":2:-9")
        self.hold(30, ":", "29:25:-3", ":-5:-3")

    def test_one_element(self):
        self.hold(30, ":", "29::1", "-1:")
        self.hold(30, ":", "::30", ":1")
        self.hold(30, ":", "5::25", "5:6")
        self.hold(30, ":", "21::9", "-9:-8")
        self.hold(30, ":", "28::9", "-2:-1")
        self.hold(30, ":", "15::-20", "15:16")
        self.hold(30, ":", "9::99", "9:10")
        self.hold(10, ":", "9::3", "9:")
        self.hold(10, ":", "8::3", "8:9")
        self.hold(10, ":", "0::10", ":1")
        self.hold(11, ":", "10::3", "-1:")
        self.hold(11, ":", "9::3", "9:-1")
        self.hold(1, ":", "::-5", ":")
        self.hold(2, ":", "1:", "1:")
        self.hold(10, "3::99", ":", ":")

    def test_nothing(self):
        for n in range(130):
            given = run(set_length(n), assign(2, "0:0"), find_slice(0, 2), assign(3, "::-1"), find_slice(3, 2))
            text = ":" if n == 0 else f"{n}:" if n < 10 else ":0"
            self.assertEqual((given[2], given[4]), (text_answer(text),) * 2, n)
        self.hold(LIMIT, ":", "5:5", ":0")
        self.hold(LIMIT, "::-100000000000000000", "5:5", ":0")
        self.hold(LIMIT, "::-200000000000000000", "5:5", "5:")

    def test_of_nothing(self):
        given = run(set_length(9), assign(1, "4:4"), find_slice(1, 1), find_slice(1, 0), assign(2, "3:4"), find_slice(1, 2))
        self.assertEqual(given[2:], [text_answer(":"), NO_SLICE, [1, 3, 1], NO_SLICE])

    def test_one_that_runs_against_the_other(self):
        given = run(
            set_length(20), assign(1, "1::3"), reverse(2, 1), find_slice(1, 2), find_slice(2, 1), reverse(3, 0),
            find_slice(3, 1), find_slice(3, 2), find_slice(0, 2), slice_of(4, 3, "18::-3"), slice_of(5, 3, "::3"))
        self.assertEqual(given[2], [7, 19, -3])
        self.assertEqual(given[3:5], [text_answer("::-1")] * 2)
        self.assertEqual(given[6:9], [text_answer("-2::-3"), text_answer("::3"), text_answer("::-3")])
        self.assertEqual(given[9:], [[7, 1, 3], [7, 19, -3]])

    def test_no_part(self):
        for one, two in (("::2", "1::2"), ("::2", ":"), ("::2", "::3"), ("::4", "0:13:6"), ("3:9", "2:9"), ("3:9", "3:10"),
                         ("3:4", "4:5"), ("3:4", "3:5"), ("::-3", "::-2"), ("4:4", "4:5"), ("2::6", "5:6"), ("::9", "::5"),
                         ("::3", "::10"), ("::4", "12::-6"), ("5:15", "19::-1"), ("6::2", "4:5")):
            given = run(set_length(20), assign(1, one), assign(2, two), find_slice(1, 2))
            self.assertEqual(given[3], NO_SLICE, (one, two))

    def test_reading_only(self):
        setup = [set_length(20), assign(1, "::3"), assign(2, "::-6"), assign(3, "3:4"), assign(4, "4:4")]
        before = run(*setup, *get_all(), assign(7, ":"))
        for call in (find_slice(0, 1), find_slice(1, 2), find_slice(1, 3), find_slice(1, 4), find_slice(3, 1)):
            given = run(*setup, call, *get_all(), assign(7, ":"))
            self.assertEqual(given[:5] + given[6:], before, call)


class SlicesOfSlices(unittest.TestCase):
    def test_a_chain_of_slices_is_one_slice(self):
        texts = ["::2", "::-1", "1:", ":-1", "1:-1", "::-3", "5:1:-2", "-4::3"]
        chains = list(itertools.product(texts, repeat=3))
        for n in (0, 1, 11, 120, FAR, LIMIT):
            groups = [[slice_of(1, 0, one), slice_of(2, 1, two), slice_of(3, 2, three), find_slice(0, 3), find_slice(1, 3),
                       find_slice(2, 3), find_slice(0, 2)] for one, two, three in chains]
            given = run_groups([set_length(n)], groups)
            back = []
            for (one, two, three), answered in zip(chains, given):
                found = [bytes(answer[1:]) for answer in answered[3:]]
                back.append([slice_of(1, 0, one), slice_of(2, 1, two), slice_of(4, 0, found[0]), slice_of(5, 1, found[1]),
                             slice_of(6, 2, found[2]), slice_of(7, 0, found[3])])
                self.assertLessEqual(answered[5][0], len(three))
            for answered, again in zip(given, run_groups([set_length(n)], back)):
                self.assertEqual(again[2:], [answered[2]] * 3 + [answered[1]])


class LongestSequences(unittest.TestCase):
    def candidates(self, n, part):
        """Slices that may have the preferred text: near each end of what is allowed, and where texts get longer."""
        held = as_range(part)
        powers = [10 ** digits for digits in range(18)]
        near = [number + off for number in (held[0], held[-1], held[-1] + part[2], held[-1] - part[2], 0, n)
                for off in (-1, 0, 1)] + powers + [power - 1 for power in powers]
        near += [number - n for number in near] + [-power for power in powers]
        near = [None, *sorted({number for number in near if -LIMIT < number < LIMIT})]
        sizes = [None if part[2] == 1 else part[2]]
        if part[0] == 1:
            sizes += [size for size in (n - held[0], n - held[0] - 1, -held[0] - 1, -held[0], 2, -1, 10, FAR, -FAR)
                      if size and abs(size) <= FAR]
        starts = [start for start in near if start in (None, held[0], held[0] - n) or start in (-FAR, FAR)]
        return itertools.product(starts, near, sizes)

    def best(self, n, part):
        """As above, the texts that do not yield the part left out."""
        texts = [notation(*cut) for cut in self.candidates(n, part) if range(n)[slice(*cut)] == as_range(part)]
        return min(texts, key=lambda text: (len(text), text))

    def test_against_candidates(self):
        for n in (LIMIT, FAR, LIMIT // 10 + 1):
            firsts = [0, 1, 9, 10, 10 ** 9, n // 2 - 1, n // 2, n - 10 ** 9, n - 11, n - 10, n - 2, n - 1]
            sizes = [1, -1, 2, -3, 10, -1000003, n // 3, -n // 4, n // 2 + 1, n - 1, -(n - 1)]
            parts = set()
            for first, size in itertools.product(firsts, sizes):
                most = len(range(first, n if size > 0 else -1, size))
                parts |= {tuple(canonical(range(first, first + count * size, size)))
                          for count in (1, 2, 3, most // 2, most - 1, most) if 0 < count <= most}
            parts = sorted(parts)
            cuts = [notation(part[1], None if part[1] + part[0] * part[2] < 0 or part[1] + part[0] * part[2] >= n
                             else part[1] + part[0] * part[2], part[2]) for part in parts]
            texts = [self.best(n, part) for part in parts]
            groups = [[assign(1, cut), find_slice(0, 1), assign(2, text)] for cut, text in zip(cuts, texts)]
            for part, text, given in zip(parts, texts, run_groups([set_length(n)], groups)):
                self.assertEqual(given, [list(part), text_answer(text), list(part)], (n, part))

    def hold(self, made, text):
        given = run(set_length(LIMIT), assign(1, made), find_slice(0, 1), assign(2, text))
        self.assertEqual(given[2], text_answer(text), made)
        self.assertEqual(given[3], given[1])

    def test_by_hand(self):
        self.hold("0:", ":")
        self.hold("999999999999999999::-1", "::-1")
        self.hold("999999999999999999:", "-1:")
        self.hold("999999999999999998:999999999999999999", "-2:-1")
        self.hold("0:1", ":1")
        self.hold("::999999999999999999", "::999999999999999999")
        self.hold("::-999999999999999999", "::-999999999999999999")
        self.hold("0:999999999999999999", ":-1")
        self.hold("999999999999999999:0:-1", ":0:-1")
        self.hold("999999999999999999:1:-2", ":1:-2")
        self.hold("500000000000000000:", "500000000000000000:")
        self.hold("900000000000000000:", "900000000000000000:")
        self.hold("900000000000000001:", "-99999999999999999:")
        self.hold("123456789012345678:123456789012345679", "123456789012345678:123456789012345679")
        self.hold("0:800000000000000000:333333333333333333", ":-1:333333333333333333")
        self.hold("0:800000000000000000:300000000000000000", ":600000000000000001:300000000000000000")
        self.hold("0:800000000000000000:350000000000000000", "::350000000000000000")

    def test_slices_of_a_long_selection(self):
        given = run(
            set_length(LIMIT), assign(1, "::-6"), assign(2, "3::12"), find_slice(1, 2), slice_of(3, 1, "::-2"),
            find_slice(1, 3), assign(4, "::999999999999999999"), find_slice(1, 4), find_slice(4, 1), assign(5, "4:5"),
            find_slice(1, 5))
        self.assertEqual(given[1:4], [
            [166666666666666667, FAR, -6], [83333333333333334, 3, 12], text_answer("::-2")])
        self.assertEqual(given[4:6], [[83333333333333334, 3, 12], text_answer("::-2")])
        self.assertEqual(given[7:9], [NO_SLICE, NO_SLICE])
        self.assertEqual(given[10], NO_SLICE)


if __name__ == "__main__":
    unittest.main()
