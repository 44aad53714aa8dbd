"""The union and the difference of two progressions, where these are progressions again."""

from cutnotation.common import covers, intersection
from cutnotation.progressions import evenly_spread, highest, lowest, position_of, turned, upward


# What holds both operands and has as many members as they have together holds nothing else.
def union_of(p, q):
    if p.count == 0:
        return upward(q)
    if q.count == 0:
        return upward(p)
    count = p.count + q.count - intersection(p, q).count
    candidate = evenly_spread(count, min(lowest(p), lowest(q)), max(highest(p), highest(q)))
    if covers(candidate, p) and covers(candidate, q):
        return candidate
    return None


# What is removed takes each member from its first on if it has the step of p; else its members lie apart in p.
def first_left(p, removed):
    if position_of(removed, p.first) is None:
        return p.first
    run = removed.count if removed.step == p.step else 1
    return p.first + run * p.step


# What lies within p, has nothing of the removed part and has as many members as are left holds all that is left.
def difference_of(p, q):
    removed = intersection(p, q)
    last = first_left(turned(p), turned(removed))
    candidate = evenly_spread(p.count - removed.count, first_left(p, removed), last)
    if covers(p, candidate) and intersection(candidate, removed).count == 0:
        return candidate
    return None
