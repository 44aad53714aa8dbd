"""The package's one entry: a list of calls on a new object, and the list of their answers."""

from cutnotation.operations import (
    Calculator, assign, check_syntax, cut, difference, element_at, find_slice, first_common, get, index_of, intersect,
    is_subset, reverse, same_elements, set_length, union,
)

# How many whole numbers a call has, by its operation number; its text, if it has one, comes behind them.
WHOLE_NUMBERS = (1, 1, 2, 2, 1, 2, 2, 3, 2, 2, 2, 3, 3, 2, 0)
WITH_TEXT = (1, 2, 14)


class UnknownCall(ValueError):
    pass


class Call:
    def __init__(self, operation, numbers, text, end):
        self.operation = operation
        self.numbers = numbers
        self.text = text
        self.end = end


def read_call(calls, begin):
    operation = calls[begin]
    if not 0 <= operation < len(WHOLE_NUMBERS):
        raise UnknownCall(f"no operation {operation}")
    end = begin + 1 + WHOLE_NUMBERS[operation]
    numbers = calls[begin + 1:end]
    if operation not in WITH_TEXT:
        return Call(operation, numbers, [], end)
    text_end = end + 1 + calls[end]
    return Call(operation, numbers, calls[end + 1:text_end], text_end)


def answer_to(calculator, call):
    given = call.numbers
    if call.operation == 0:
        return set_length(calculator, given[0])
    if call.operation == 1:
        return assign(calculator, given[0], call.text)
    if call.operation == 2:
        return cut(calculator, given[0], given[1], call.text)
    if call.operation == 3:
        return reverse(calculator, given[0], given[1])
    if call.operation == 4:
        return get(calculator, given[0])
    if call.operation == 5:
        return element_at(calculator, given[0], given[1])
    if call.operation == 6:
        return index_of(calculator, given[0], given[1])
    if call.operation == 7:
        return intersect(calculator, given[0], given[1], given[2])
    if call.operation == 8:
        return is_subset(calculator, given[0], given[1])
    if call.operation == 9:
        return same_elements(calculator, given[0], given[1])
    if call.operation == 10:
        return first_common(calculator, given[0], given[1])
    if call.operation == 11:
        return union(calculator, given[0], given[1], given[2])
    if call.operation == 12:
        return difference(calculator, given[0], given[1], given[2])
    if call.operation == 13:
        return find_slice(calculator, given[0], given[1])
    return check_syntax(call.text)


def answers(calls):
    calculator = Calculator()
    result = []
    begin = 0
    while begin < len(calls):
        call = read_call(calls, begin)
        answer = answer_to(calculator, call)
        result.append(len(answer))
        result.extend(answer)
        begin = call.end
    return result
