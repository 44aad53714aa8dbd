"""reverse, get, element_at and index_of."""

import unittest

from tests.calls import (
    EMPTY, LIMIT, assign, canonical, element_at, get, index_of, members, notation_of, reverse, run, run_groups,
    set_length, slice_of, small_progressions,
)

FAR = 10 ** 18 - 1


class Reverse(unittest.TestCase):
    def test_small_progressions(self):
        for source in small_progressions(7):
            given = run(set_length(7), assign(1, notation_of(source)), reverse(2, 1), get(1), get(2), reverse(3, 2))
            turned = canonical(members(source)[::-1])
            self.assertEqual(given[1:], [list(source), turned, list(source), turned, list(source)])

    def test_empty(self):
        given = run(set_length(10), assign(1, "5:5"), reverse(2, 1), get(2), reverse(1, 1), get(1))
        self.assertEqual(given[1:], [EMPTY] * 5)

    def test_one_element(self):
        given = run(set_length(10), assign(1, "7:8"), reverse(2, 1), get(2), reverse(1, 1), get(1))
        self.assertEqual(given[1:], [[1, 7, 1]] * 5)

    def test_into_its_own_register(self):
        given = run(set_length(10), assign(1, "2:9:3"), reverse(1, 1), get(1), reverse(1, 1), get(1))
        self.assertEqual(given[1:], [[3, 2, 3], [3, 8, -3], [3, 8, -3], [3, 2, 3], [3, 2, 3]])

    def test_longest(self):
        given = run(
            set_length(LIMIT), reverse(1, 0), reverse(2, 1), assign(3, "::999999999999999999"), reverse(4, 3), reverse(5, 4))
        self.assertEqual(given[1:], [[LIMIT, FAR, -1], [LIMIT, 0, 1], [2, 0, FAR], [2, FAR, -FAR], [2, 0, FAR]])


class Get(unittest.TestCase):
    def test_empty_one_and_several(self):
        given = run(
            set_length(10), assign(1, "5:5"), assign(2, "7::3"), assign(3, "::-4"), get(0), get(1), get(2), get(3), get(3))
        self.assertEqual(given[4:], [[10, 0, 1], EMPTY, [1, 7, 1], [3, 9, -4], [3, 9, -4]])


class ElementAt(unittest.TestCase):
    def test_small_progressions(self):
        for source in small_progressions(6):
            places = list(range(-9, 10)) + [-LIMIT, LIMIT]
            given = run(set_length(6), assign(1, notation_of(source)), *[element_at(1, place) for place in places])
            found = members(source)
            for place, answer in zip(places, given[2:]):
                wanted = [found[place]] if -len(found) <= place < len(found) else [-12]
                self.assertEqual(answer, wanted, (source, place))

    def test_first_last_and_beyond(self):
        given = run(
            set_length(10), assign(1, "2:9:3"), element_at(1, 0), element_at(1, 2), element_at(1, 3), element_at(1, -1),
            element_at(1, -3), element_at(1, -4),
        )
        self.assertEqual(given[2:], [[2], [8], [-12], [8], [2], [-12]])

    def test_empty(self):
        for place in (0, 1, -1, LIMIT, -LIMIT):
            self.assertEqual(run(set_length(10), assign(1, "5:5"), element_at(1, place))[2], [-12])

    def test_longest(self):
        given = run(
            set_length(LIMIT), assign(1, "::-1"), element_at(0, FAR), element_at(0, LIMIT), element_at(0, -LIMIT),
            element_at(1, FAR), element_at(1, 0), element_at(1, -1), element_at(1, -LIMIT), element_at(1, LIMIT),
            set_length(FAR), element_at(0, -LIMIT), element_at(0, -FAR), element_at(0, FAR),
        )
        self.assertEqual(given[2:10], [[FAR], [-12], [0], [0], [FAR], [0], [FAR], [-12]])
        self.assertEqual(given[11:], [[-12], [0], [-12]])


class IndexOf(unittest.TestCase):
    def test_small_progressions(self):
        for source in small_progressions(6):
            numbers = list(range(-9, 15)) + [-LIMIT, LIMIT]
            given = run(set_length(6), assign(1, notation_of(source)), *[index_of(1, number) for number in numbers])
            found = members(source)
            for number, answer in zip(numbers, given[2:]):
                self.assertEqual(answer, [found.index(number)] if number in found else [-13], (source, number))

    def test_first_last_and_beyond(self):
        given = run(
            set_length(20), assign(1, "2:9:3"), index_of(1, 2), index_of(1, 8), index_of(1, 11), index_of(1, -1),
            index_of(1, 3), index_of(1, 7), assign(1, "12:4:-3"), index_of(1, 12), index_of(1, 6), index_of(1, 3),
            index_of(1, 15), index_of(1, 7),
        )
        self.assertEqual(given[2:8], [[0], [2], [-13], [-13], [-13], [-13]])
        self.assertEqual(given[9:], [[0], [2], [-13], [-13], [-13]])

    def test_empty(self):
        for number in (0, 1, -1, 5, LIMIT, -LIMIT):
            self.assertEqual(run(set_length(10), assign(1, "5:5"), index_of(1, number))[2], [-13])

    def test_longest(self):
        given = run(
            set_length(LIMIT), assign(1, "::-7"), index_of(0, FAR), index_of(0, LIMIT), index_of(0, -1), index_of(1, FAR),
            index_of(1, FAR - 7), index_of(1, FAR - 8), index_of(1, FAR % 7), index_of(1, FAR % 7 - 7), index_of(1, -LIMIT),
        )
        self.assertEqual(given[2:], [[FAR], [-13], [-13], [0], [1], [-13], [FAR // 7], [-13], [-13]])


class Inverse(unittest.TestCase):
    def test_small_progressions(self):
        for source in small_progressions(7):
            setup = [set_length(7), assign(1, notation_of(source))]
            for place, number in enumerate(members(source)):
                self.assertEqual(run(*setup, element_at(1, place), index_of(1, number))[2:], [[number], [place]])

    def test_longest(self):
        texts = [":", "::-1", "5::1000003", "::-1000005", "3::499999999999999998", "::-333333333333333333"]
        for text in texts:
            count = run(set_length(LIMIT), assign(1, text))[1][0]
            places = sorted({0, 1, count // 3, count // 2, count - 2, count - 1})
            given = run(set_length(LIMIT), assign(1, text), *[element_at(1, place) for place in places])
            back = run(set_length(LIMIT), assign(1, text), *[index_of(1, number) for (number,) in given[2:]])
            self.assertEqual(back[2:], [[place] for place in places], text)

    def test_the_elements_that_slices_move(self):
        groups = [[slice_of(2, 1, f"{place}:{place + 1}"), element_at(1, place)] for place in range(300)]
        for part, (number,) in run_groups([set_length(LIMIT), assign(1, "::-3333333333333333")], groups):
            self.assertEqual(part, [1, number, 1])


if __name__ == "__main__":
    unittest.main()
