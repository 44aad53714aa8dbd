"""The preferred notation of a part of a progression."""

from cutnotation.common import covers
from cutnotation.progressions import evenly_spread, last_of, position_of


def preferred(one, other):
    if len(one) == len(other):
        return min(one, other)
    return one if len(one) < len(other) else other


def start_text(positions, n):
    omitted = 0 if positions.step > 0 else n - 1
    if positions.first == omitted:
        return ""
    return preferred(str(positions.first), str(positions.first - n))


# Every stop behind the last position, up to the one that the next step would reach, ends the slice there. Of these the
# least has the preferred notation if counted from the front, and the greatest if counted from the end.
def stop_text(positions, n):
    last = last_of(positions)
    beyond = last + positions.step
    if not 0 <= beyond < n:
        return ""
    least = min(last + 1, beyond)
    greatest = max(last - 1, beyond)
    return preferred(str(least), str(greatest - n))


def step_text(positions):
    return "" if positions.step == 1 else ":" + str(positions.step)


# Beside the text of one colon, which selects everything, a slice has two bytes at least. A digit is less than a colon.
def text_of_nothing(n):
    if n == 0:
        return ":"
    return str(n) + ":" if n <= 9 else ":0"


# A single position has the step 1 here. Another step could shorten or spare its stop, but would take as many bytes or
# more, and where it takes as many, its colon is greater than the digit or minus sign that the stop begins with.
def text_of_positions(positions, n):
    return start_text(positions, n) + ":" + stop_text(positions, n) + step_text(positions)


def shortest_text(p, q):
    if not covers(p, q):
        return None
    if q.count == 0:
        return text_of_nothing(p.count)
    positions = evenly_spread(q.count, position_of(p, q.first), position_of(p, last_of(q)))
    return text_of_positions(positions, p.count)
