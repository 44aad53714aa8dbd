"""Writes calls as the interface wants them, and reads the answers; every test module uses it."""

from cutnotation.slices import answers

LIMIT = 10 ** 18
EMPTY = [0, 0, 1]
ALL_REGISTERS = range(8)
NOT_REGISTERS = (-1, 8, -LIMIT, LIMIT)
ANSWER_LENGTHS = {0: 1, 1: 3, 2: 3, 3: 3, 4: 3, 5: 1, 6: 1, 7: 3, 8: 1, 9: 1, 11: 3, 12: 3, 14: 2}
REASON_LENGTHS = {1: 2, 2: 2, 3: 5, 4: 3}


def with_text(numbers, text):
    data = list(text) if isinstance(text, (bytes, list)) else list(text.encode("latin-1"))
    return numbers + [len(data)] + data


def set_length(n):
    return [0, n]


def assign(r, text):
    return with_text([1, r], text)


def slice_of(r, p, text):
    return with_text([2, r, p], text)


def reverse(r, p):
    return [3, r, p]


def get(p):
    return [4, p]


def element_at(p, i):
    return [5, p, i]


def index_of(p, x):
    return [6, p, x]


def intersect(r, p, q):
    return [7, r, p, q]


def is_subset(p, q):
    return [8, p, q]


def same_elements(p, q):
    return [9, p, q]


def first_common(p, q):
    return [10, p, q]


def union(r, p, q):
    return [11, r, p, q]


def difference(r, p, q):
    return [12, r, p, q]


def find_slice(p, q):
    return [13, p, q]


def check_syntax(text):
    return with_text([14], text)


def get_all():
    return [get(register) for register in ALL_REGISTERS]


def run(*calls):
    """The answers to the calls, each a list; what the interface says of every answer is held on the way."""
    flat = [number for call in calls for number in call]
    if not 1 <= len(calls) <= 400 or len(flat) > 17000:
        raise ValueError("such a list of calls is never handed in")
    before = list(flat)
    given = answers(flat)
    if flat != before:
        raise AssertionError("the calls were changed")
    if type(given) is not list or any(type(number) is not int for number in given):
        raise AssertionError("not a list of whole numbers")
    return split_answers(calls, given)


def split_answers(calls, given):
    split = []
    at = 0
    for call in calls:
        length = given[at]
        answer = given[at + 1:at + 1 + length]
        if length != answer_length(call[0], answer) or len(answer) != length:
            raise AssertionError(f"the answer to {call} is {answer}, told as {length} numbers")
        split.append(answer)
        at += 1 + length
    if at != len(given):
        raise AssertionError("there are more answers than calls")
    return split


def answer_length(operation, answer):
    if operation == 14 and answer[0] < 0:
        raise AssertionError("check_syntax has no errors")
    if answer[0] < 0:
        return 1
    if operation == 10:
        return REASON_LENGTHS[answer[1]] if answer[0] == 0 else 2
    if operation == 13:
        return 1 + answer[0]
    return ANSWER_LENGTHS[operation]


def run_groups(setup, groups):
    """Runs many groups of calls, as many to one list as it may hold, each list with the setup ahead.

    Gives back the answers of each group.
    """
    results = []
    batch = []
    for group in groups:
        calls = setup + [call for one in batch for call in one] + group
        if len(calls) > 400 or sum(map(len, calls)) > 17000:
            results.extend(run_batch(setup, batch))
            batch = []
        batch.append(group)
    if batch:
        results.extend(run_batch(setup, batch))
    return results


def run_batch(setup, batch):
    given = run(*setup, *[call for group in batch for call in group])
    results = []
    at = len(setup)
    for group in batch:
        results.append(given[at:at + len(group)])
        at += len(group)
    return results


def canonical(indices):
    """The three numbers of a range, or of a list that is known to be a progression."""
    count = len(indices)
    if count == 0:
        return EMPTY
    return [count, indices[0], indices[1] - indices[0] if count > 1 else 1]


def as_progression(indices):
    """The answer that stores these indices in their order: three numbers, or -14 where the gaps differ."""
    gaps = {after - before for before, after in zip(indices, indices[1:])}
    return canonical(indices) if len(gaps) <= 1 else [-14]


def notation(start=None, stop=None, step=None):
    parts = ["" if part is None else str(part) for part in (start, stop, step)]
    return ":".join(parts[:2] if step is None else parts)


def notation_of(progression):
    """A slice of a long enough sequence that selects this progression, for a count, a first and a step."""
    count, first, step = progression
    stop = first + count * step
    return notation(first, None if stop < 0 else stop, step)


def text_answer(text):
    """The answer of find_slice that tells this text."""
    return [len(text), *text.encode("latin-1")]


def as_range(progression):
    count, first, step = progression
    return range(first, first + count * step, step)


def small_progressions(n):
    """Every progression of indices below n, in both directions, as count, first, step."""
    found = [tuple(EMPTY)]
    for first in range(n):
        found.append((1, first, 1))
        for step in [size for size in range(1 - n, n) if size != 0]:
            count = 2
            while 0 <= first + (count - 1) * step < n:
                found.append((count, first, step))
                count += 1
    return found


def members(progression):
    count, first, step = progression
    return [first + position * step for position in range(count)]
