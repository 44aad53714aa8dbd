"""The package's one entry: a list of calls on a new object, and the list of their answers."""

from cutnotation.operations import Calculator, assign, cut, element_at, get, index_of, intersect, reverse, set_length

# How many whole numbers a call has, by its operation number; its text, if it has one, comes behind them.
WHOLE_NUMBERS = (1, 1, 2, 2, 1, 2, 2, 3)
WITH_TEXT = (1, 2)


class UnknownCall(ValueError):
    pass


class Call:
    def __init__(self, operation, numbers, text, end):
        self.operation = operation
        self.numbers = numbers
        self.text = text
        self.end = end


def read_call(calls, begin):
    operation = calls[begin]
    if not 0 <= operation < len(WHOLE_NUMBERS):
        raise UnknownCall(f"no operation {operation}")
    end = begin + 1 + WHOLE_NUMBERS[operation]
    numbers = calls[begin + 1:end]
    if operation not in WITH_TEXT:
        return Call(operation, numbers, [], end)
    text_end = end + 1 + calls[end]
    return Call(operation, numbers, calls[end + 1:text_end], text_end)


def answer_to(calculator, call):
    given = call.numbers
    if call.operation == 0:
        return set_length(calculator, given[0])
    if call.operation == 1:
        return assign(calculator, given[0], call.text)
    if call.operation == 2:
        return cut(calculator, given[0], given[1], call.text)
    if call.operation == 3:
        return reverse(calculator, given[0], given[1])
    if call.operation == 4:
        return get(calculator, given[0])
    if call.operation == 5:
        return element_at(calculator, given[0], given[1])
    if call.operation == 6:
        return index_of(calculator, given[0], given[1])
    return intersect(calculator, given[0], given[1], given[2])


def answers(calls):
    calculator = Calculator()
    result = []
    begin = 0
    while begin < len(calls):
        call = read_call(calls, begin)
        answer = answer_to(calculator, call)
        result.append(len(answer))
        result.extend(answer)
        begin = call.end
    return result
