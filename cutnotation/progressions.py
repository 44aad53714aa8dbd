"""Arithmetic progressions of indices, and the slices of them."""


class Progression:
    # Every progression is made here, so none can miss its canonical form.
    def __init__(self, count, first, step):
        self.count = max(count, 0)
        self.first = first if count > 0 else 0
        self.step = step if count > 1 else 1


def numbers_of(progression):
    return [progression.count, progression.first, progression.step]


def last_of(progression):
    return progression.first + (progression.count - 1) * progression.step


def lowest(progression):
    return min(progression.first, last_of(progression))


def highest(progression):
    return max(progression.first, last_of(progression))


def clamp(x, low, high, n):
    counted = x + n if x < 0 else x
    return min(max(counted, low), high)


def indices(start, stop, step, n):
    stride = 1 if step is None else step
    if stride > 0:
        begin = 0 if start is None else clamp(start, 0, n, n)
        end = n if stop is None else clamp(stop, 0, n, n)
    else:
        begin = n - 1 if start is None else clamp(start, -1, n - 1, n)
        end = -1 if stop is None else clamp(stop, -1, n - 1, n)
    # A quotient that is rounded down and negated is rounded up, whichever way the stride runs.
    return Progression(-((begin - end) // stride), begin, stride)


def part_of(progression, positions):
    first = progression.first + positions.first * progression.step
    return Progression(positions.count, first, positions.step * progression.step)


def turned(progression):
    return Progression(progression.count, last_of(progression), -progression.step)


def upward(progression):
    return turned(progression) if progression.step < 0 else progression


# No other progression can have this many members from first to last; where the gaps would be no whole numbers, none
# can, and this one misses last.
def evenly_spread(count, first, last):
    if count < 2:
        return Progression(count, first, 1)
    return Progression(count, first, (last - first) // (count - 1))


def position_of(progression, x):
    distance = x - progression.first
    if distance % progression.step != 0:
        return None
    position = distance // progression.step
    if 0 <= position < progression.count:
        return position
    return None
