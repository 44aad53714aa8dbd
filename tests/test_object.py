"""The object: its first state, set_length, the register checks, and that nothing is kept or changed."""

import unittest

from cutnotation.slices import UnknownCall, answers
from tests.calls import (
    ALL_REGISTERS, EMPTY, LIMIT, NOT_REGISTERS, assign, check_syntax, difference, element_at, find_slice, first_common, get,
    get_all, index_of, intersect, is_subset, reverse, run, same_elements, set_length, slice_of, text_answer, union,
)

SOME_STATE = [
    set_length(20), assign(0, "::3"), assign(1, "::-2"), assign(2, "4:4"), assign(3, "7:8"), assign(4, "1::18"),
    assign(5, "-3:"), assign(6, "15:2:-5"),
]


def calls_with(register):
    """Each call with this register in each of its places, and the other places in order."""
    return [
        assign(register, ":"), slice_of(register, 1, ":"), slice_of(0, register, ":"), reverse(register, 1),
        reverse(0, register), get(register), element_at(register, 0), index_of(register, 0),
        intersect(register, 1, 2), intersect(0, register, 2), intersect(0, 1, register),
        is_subset(register, 1), is_subset(1, register), same_elements(register, 1), same_elements(1, register),
        first_common(register, 1), first_common(1, register),
        union(register, 1, 2), union(0, register, 2), union(0, 1, register),
        difference(register, 1, 2), difference(0, register, 2), difference(0, 1, register),
        find_slice(register, 1), find_slice(1, register),
    ]


class NewObject(unittest.TestCase):
    def test_registers_are_empty(self):
        self.assertEqual(run(*get_all()), [EMPTY] * 8)

    def test_length_is_zero(self):
        self.assertEqual(run(assign(0, ":"), assign(1, "::-1"), assign(2, "-1:"), assign(3, "0:1")), [EMPTY] * 4)

    def test_operations_on_the_empty_registers(self):
        given = run(
            slice_of(0, 1, "::-1"), reverse(2, 3), intersect(4, 5, 6), element_at(0, 0), element_at(0, -1), index_of(0, 0),
            is_subset(0, 1), same_elements(2, 3), first_common(4, 5), union(6, 7, 0), difference(1, 2, 3), find_slice(4, 5),
        )
        self.assertEqual(given, [
            EMPTY, EMPTY, EMPTY, [-12], [-12], [-13], [1], [1], [0, 1], EMPTY, EMPTY, text_answer(":")])


class SetLength(unittest.TestCase):
    def test_every_register_holds_all_indices(self):
        for n in (0, 1, 2, 3, 10, LIMIT - 1, LIMIT):
            with self.subTest(n=n):
                given = run(set_length(n), *get_all())
                self.assertEqual(given, [[n]] + [[n, 0, 1]] * 8)

    def test_registers_are_set_anew(self):
        for n in (0, 1, 5, LIMIT):
            with self.subTest(n=n):
                given = run(*SOME_STATE, set_length(n), *get_all(), assign(2, ":"))
                self.assertEqual(given[len(SOME_STATE):], [[n]] + [[n, 0, 1]] * 8 + [[n, 0, 1]])

    def test_registers_are_apart(self):
        given = run(set_length(6), assign(3, "1:3"), *get_all())
        self.assertEqual(given[2:], [[6, 0, 1]] * 3 + [[2, 1, 1]] + [[6, 0, 1]] * 4)

    def test_bad_length_changes_nothing(self):
        for n in (-1, -2, -LIMIT):
            with self.subTest(n=n):
                before = run(*SOME_STATE, *get_all(), assign(0, ":"))
                after = run(*SOME_STATE, set_length(n), *get_all(), assign(0, ":"))
                at = len(SOME_STATE)
                self.assertEqual(after[at], [-11])
                self.assertEqual(after[:at] + after[at + 1:], before)

    def test_bad_length_on_a_new_object(self):
        self.assertEqual(run(set_length(-1), *get_all(), assign(0, ":")), [[-11]] + [EMPTY] * 9)


class Registers(unittest.TestCase):
    def test_not_a_register(self):
        for register in NOT_REGISTERS:
            for call in calls_with(register):
                with self.subTest(call=call):
                    self.assertEqual(run(set_length(5), call), [[5], [-10]])

    def test_several_are_not_registers(self):
        for call in (slice_of(8, -1, ":"), reverse(-1, 8), intersect(8, 8, 8), intersect(0, -1, 8), intersect(9, 0, -1),
                     is_subset(8, -1), same_elements(-1, 8), first_common(8, 8), union(8, 0, -1), union(0, -1, 8),
                     difference(-1, 8, 0), difference(8, 8, 8), find_slice(-1, -1)):
            with self.subTest(call=call):
                self.assertEqual(run(set_length(5), call), [[5], [-10]])

    def test_registers_come_before_the_other_errors(self):
        for register in NOT_REGISTERS:
            for text in ("", "#", "0", "::0", "1" * 19, ":" * 201):
                for call in (assign(register, text), slice_of(register, 0, text), slice_of(0, register, text)):
                    with self.subTest(call=call):
                        self.assertEqual(run(call), [[-10]])
            self.assertEqual(run(element_at(register, 5), index_of(register, -5)), [[-10], [-10]])

    def test_registers_come_before_no_progression_and_no_slice(self):
        setup = [set_length(9), assign(1, "::4"), assign(2, "1::4")]
        given = run(*setup, union(3, 1, 2), difference(3, 0, 1), find_slice(1, 2))
        self.assertEqual(given[3:], [[-14], [-14], [-15]])
        for register in NOT_REGISTERS:
            given = run(
                *setup, union(register, 1, 2), union(register, 0, 1), difference(register, 0, 1), difference(register, 1, 2),
                find_slice(register, 2), find_slice(1, register))
            self.assertEqual(given[3:], [[-10]] * 6, register)

    def test_every_register_can_be_used(self):
        for register in ALL_REGISTERS:
            given = run(
                set_length(9), assign(register, "2::3"), get(register), slice_of(register, register, "1:"),
                reverse(register, register), element_at(register, 0), index_of(register, 5),
                intersect(register, register, register), is_subset(register, register), same_elements(register, register),
                first_common(register, register), find_slice(register, register), *get_all(),
                union(register, register, register), get(register), difference(register, register, register), *get_all(),
            )
            rest = [[2, 8, -3] if other == register else [9, 0, 1] for other in ALL_REGISTERS]
            emptied = [EMPTY if other == register else [9, 0, 1] for other in ALL_REGISTERS]
            self.assertEqual(
                given[1:], [[3, 2, 3], [3, 2, 3], [2, 5, 3], [2, 8, -3], [8], [1], [2, 8, -3], [1], [1], [1, 5],
                            text_answer(":")] + rest + [[2, 5, 3], [2, 5, 3], EMPTY] + emptied)

    def test_only_the_named_register_changes(self):
        for call in (assign(6, "3::4"), slice_of(6, 0, "1:3"), reverse(6, 1), intersect(6, 0, 1), union(6, 2, 1),
                     difference(6, 1, 2)):
            with self.subTest(call=call):
                before = run(*SOME_STATE, *get_all())[len(SOME_STATE):]
                given = run(*SOME_STATE, call, *get_all())[len(SOME_STATE):]
                self.assertNotEqual(given[0], before[6])
                self.assertEqual(given[1:], before[:6] + [given[0]] + before[7:])


class FailingCalls(unittest.TestCase):
    def failing(self):
        calls = [(set_length(-1), -11), (element_at(0, 7), -12), (element_at(2, 0), -12), (index_of(0, 1), -13)]
        calls += [(union(0, 0, 1), -14), (union(3, 4, 5), -14), (difference(1, 1, 0), -14), (difference(7, 7, 4), -14)]
        calls += [(find_slice(0, 1), -15), (find_slice(2, 3), -15)]
        for text, code in (("1" * 201, -1), ("1:.", -2), ("1", -4), ("::-0", -5)):
            calls += [(assign(0, text), code), (slice_of(0, 1, text), code)]
        for register in NOT_REGISTERS:
            calls += [(call, -10) for call in calls_with(register)]
        return calls

    def test_the_object_stays_as_it_is(self):
        before = run(*SOME_STATE, *get_all(), assign(7, ":"))
        at = len(SOME_STATE)
        for call, code in self.failing():
            with self.subTest(call=call):
                given = run(*SOME_STATE, call, *get_all(), assign(7, ":"))
                self.assertEqual(given[at], [code])
                self.assertEqual(given[:at] + given[at + 1:], before)

    def test_reading_calls_change_nothing(self):
        before = run(*SOME_STATE, *get_all(), assign(7, ":"))
        at = len(SOME_STATE)
        for call in (get(1), element_at(1, 3), index_of(0, 9), is_subset(3, 1), same_elements(0, 1), first_common(0, 1),
                     first_common(2, 1), first_common(3, 4), find_slice(1, 3), find_slice(1, 2), check_syntax("1:"),
                     check_syntax("1")):
            given = run(*SOME_STATE, call, *get_all(), assign(7, ":"))
            self.assertEqual(given[:at] + given[at + 1:], before)


class Watched(list):
    """A list that tells of every change, however short it lasts."""

    def refuse(self, *given, **named):
        raise AssertionError("the list of calls is being changed")

    append = extend = insert = pop = remove = clear = sort = reverse = refuse
    __setitem__ = __delitem__ = __iadd__ = __imul__ = refuse


class ListsOfCalls(unittest.TestCase):
    def test_each_list_begins_anew(self):
        calls = SOME_STATE + [
            intersect(0, 0, 1), slice_of(1, 0, "::-1"), reverse(2, 2), union(3, 3, 3), difference(5, 5, 5), is_subset(0, 1),
            first_common(1, 4), find_slice(0, 0), check_syntax("3"), same_elements(0, 1),
        ] + get_all()
        first = run(*calls)
        self.assertEqual(run(*get_all(), assign(0, ":")), [EMPTY] * 9)
        self.assertEqual(run(set_length(-1), get(0)), [[-11], EMPTY])
        self.assertEqual(run(*calls), first)

    def test_a_list_that_ends_with_an_error_leaves_nothing(self):
        self.assertEqual(run(set_length(3), assign(0, "x")), [[3], [-4]])
        self.assertEqual(run(get(0), assign(0, ":")), [EMPTY, EMPTY])

    def test_what_is_given_back_is_the_callers(self):
        flat = [number for call in SOME_STATE + get_all() for number in call]
        first = answers(flat)
        kept = list(first)
        first.clear()
        self.assertEqual(answers(flat), kept)

    def test_the_list_is_never_changed(self):
        calls = SOME_STATE + [
            slice_of(0, 1, " 1 : 2 : - 3 "), reverse(1, 0), get(2), element_at(1, -1), index_of(0, 4),
            intersect(3, 4, 5), assign(0, "::0"), assign(9, "1"), set_length(-5), assign(0, "1" * 300), is_subset(0, 1),
            same_elements(0, 0), first_common(0, 6), union(0, 0, 2), difference(0, 0, 0), find_slice(1, 2), find_slice(1, 1),
            check_syntax(" : : 0 "), check_syntax("1:2"),
        ]
        flat = Watched(number for call in calls for number in call)
        before = tuple(flat)
        self.assertEqual(len([code for code in answers(flat) if code == -10]), 1)
        self.assertEqual(tuple(flat), before)

    def test_what_is_no_call_is_refused_aloud(self):
        for operation in (-1, 15):
            with self.assertRaises(UnknownCall):
                answers([4, 0, operation, 0, 0, 0])

    def test_longest_list(self):
        given = run(set_length(LIMIT), *[assign(number % 8, "1:-1:1") for number in range(399)])
        self.assertEqual(given[1:], [[LIMIT - 2, 1, 1]] * 399)

    def test_longest_list_of_all_calls(self):
        refused = [call for register in NOT_REGISTERS for call in calls_with(register)]
        calls = calls_with(0) + calls_with(7) + refused + [
            check_syntax("1:"), check_syntax("1"), set_length(-LIMIT), set_length(LIMIT), assign(1, "::-2")]
        calls = (SOME_STATE + calls * 4)[:400]
        self.assertEqual({call[0] for call in calls}, set(range(15)))
        given = run(*calls)
        self.assertEqual(len(given), 400)
        for call, answer in zip(calls, given):
            self.assertEqual(answer == [-10], call in refused, call)
        self.assertEqual(run(*calls[:399]), given[:399])


if __name__ == "__main__":
    unittest.main()
