"""The object that the calls work on, and its operations; each gives back the numbers of its answer."""

from cutnotation.combined import difference_of, union_of
from cutnotation.common import covers, disjointness, intersection
from cutnotation.notation import shortest_text
from cutnotation.progressions import Progression, indices, lowest, numbers_of, part_of, position_of, turned
from cutnotation.syntax import read_slice

SLOTS = 8
LONGEST_SEQUENCE = 1000000000000000000

NOT_A_SLOT = 10
BAD_LENGTH = 11
NO_POSITION = 12
NOT_CONTAINED = 13
NO_PROGRESSION = 14
NO_SLICE = 15


class Calculator:
    def __init__(self):
        self.length = 0
        self.slots = [Progression(0, 0, 1)] * SLOTS


def refusal(code):
    return [-code]


def are_slots(numbers):
    return all([0 <= number < SLOTS for number in numbers])


def store(calculator, r, progression):
    calculator.slots[r] = progression
    return numbers_of(progression)


def set_length(calculator, n):
    if not 0 <= n <= LONGEST_SEQUENCE:
        return refusal(BAD_LENGTH)
    calculator.length = n
    calculator.slots = [Progression(n, 0, 1)] * SLOTS
    return [n]


def assign(calculator, r, text):
    if not are_slots([r]):
        return refusal(NOT_A_SLOT)
    reading = read_slice(text)
    if reading.code != 0:
        return refusal(reading.code)
    return store(calculator, r, indices(reading.start, reading.stop, reading.step, calculator.length))


def cut(calculator, r, p, text):
    if not are_slots([r, p]):
        return refusal(NOT_A_SLOT)
    reading = read_slice(text)
    if reading.code != 0:
        return refusal(reading.code)
    source = calculator.slots[p]
    positions = indices(reading.start, reading.stop, reading.step, source.count)
    return store(calculator, r, part_of(source, positions))


def reverse(calculator, r, p):
    if not are_slots([r, p]):
        return refusal(NOT_A_SLOT)
    return store(calculator, r, turned(calculator.slots[p]))


def get(calculator, p):
    if not are_slots([p]):
        return refusal(NOT_A_SLOT)
    return numbers_of(calculator.slots[p])


def element_at(calculator, p, i):
    if not are_slots([p]):
        return refusal(NOT_A_SLOT)
    progression = calculator.slots[p]
    position = i + progression.count if i < 0 else i
    if not 0 <= position < progression.count:
        return refusal(NO_POSITION)
    return [progression.first + position * progression.step]


def index_of(calculator, p, x):
    if not are_slots([p]):
        return refusal(NOT_A_SLOT)
    position = position_of(calculator.slots[p], x)
    if position is None:
        return refusal(NOT_CONTAINED)
    return [position]


def intersect(calculator, r, p, q):
    if not are_slots([r, p, q]):
        return refusal(NOT_A_SLOT)
    return store(calculator, r, intersection(calculator.slots[p], calculator.slots[q]))


def is_subset(calculator, p, q):
    if not are_slots([p, q]):
        return refusal(NOT_A_SLOT)
    return [1 if covers(calculator.slots[q], calculator.slots[p]) else 0]


def same_elements(calculator, p, q):
    if not are_slots([p, q]):
        return refusal(NOT_A_SLOT)
    one = calculator.slots[p]
    other = calculator.slots[q]
    return [1 if one.count == other.count and covers(one, other) else 0]


def first_common(calculator, p, q):
    if not are_slots([p, q]):
        return refusal(NOT_A_SLOT)
    one = calculator.slots[p]
    other = calculator.slots[q]
    shared = intersection(one, other)
    if shared.count > 0:
        return [1, lowest(shared)]
    return [0] + disjointness(one, other)


def store_progression(calculator, r, progression):
    if progression is None:
        return refusal(NO_PROGRESSION)
    return store(calculator, r, progression)


def union(calculator, r, p, q):
    if not are_slots([r, p, q]):
        return refusal(NOT_A_SLOT)
    return store_progression(calculator, r, union_of(calculator.slots[p], calculator.slots[q]))


def difference(calculator, r, p, q):
    if not are_slots([r, p, q]):
        return refusal(NOT_A_SLOT)
    return store_progression(calculator, r, difference_of(calculator.slots[p], calculator.slots[q]))


def find_slice(calculator, p, q):
    if not are_slots([p, q]):
        return refusal(NOT_A_SLOT)
    text = shortest_text(calculator.slots[p], calculator.slots[q])
    if text is None:
        return refusal(NO_SLICE)
    return [len(text)] + [ord(sign) for sign in text]


def check_syntax(text):
    reading = read_slice(text)
    return [reading.code, reading.place]
