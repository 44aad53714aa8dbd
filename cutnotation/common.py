"""What two progressions have in common, found by congruences and not by walking through them."""

from cutnotation.progressions import Progression, highest, lowest, turned

EMPTY_OPERAND = 1
APART = 2
DIFFERENT_RESIDUES = 3
OUT_OF_REACH = 4


def gcd(a, b):
    larger = a
    smaller = b
    while smaller != 0:
        rest = larger % smaller
        larger = smaller
        smaller = rest
    return larger


# To try every factor would take up to 10^18 steps; Euclid's way, which carries the factor along, takes some ninety.
def inverse(number, modulus):
    larger = modulus
    smaller = number % modulus
    larger_factor = 0
    smaller_factor = 1
    while smaller != 0:
        quotient = larger // smaller
        rest = larger - quotient * smaller
        rest_factor = larger_factor - quotient * smaller_factor
        larger = smaller
        larger_factor = smaller_factor
        smaller = rest
        smaller_factor = rest_factor
    return larger_factor % modulus


# High ends are left out of account here, so the number may lie beyond both progressions.
# The divisor of the steps must divide the distance of the low ends, else there is no such number.
def least_meeting(p, q, divisor):
    p_step = abs(p.step)
    q_rest = abs(q.step) // divisor
    distance = (lowest(q) - lowest(p)) // divisor
    steps = distance * inverse(p_step // divisor, q_rest) % q_rest
    meeting = lowest(p) + steps * p_step
    bound = max(lowest(p), lowest(q))
    return bound + (meeting - bound) % (p_step * q_rest)


def intersection(p, q):
    if p.count == 0 or q.count == 0:
        return Progression(0, 0, 1)
    divisor = gcd(abs(p.step), abs(q.step))
    if (lowest(q) - lowest(p)) % divisor != 0:
        return Progression(0, 0, 1)
    least = least_meeting(p, q, divisor)
    stride = abs(p.step) // divisor * abs(q.step)
    bound = min(highest(p), highest(q))
    upward = Progression((bound - least) // stride + 1, least, stride)
    return turned(upward) if p.step < 0 else upward


def covers(whole, part):
    return intersection(whole, part).count == part.count


# A single element goes on nowhere, though its canonical form has a step.
def spacing(progression):
    return abs(progression.step) if progression.count > 1 else 0


# Two single elements are equal or apart, so the divisor is above 0 where residues are compared. A single element that
# is not apart from the other operand and has its residue lies in it, so both have a step where they meet out of reach.
def disjointness(p, q):
    if p.count == 0 or q.count == 0:
        return [EMPTY_OPERAND]
    if highest(p) < lowest(q) or highest(q) < lowest(p):
        return [APART]
    divisor = gcd(spacing(p), spacing(q))
    p_residue = lowest(p) % divisor
    q_residue = lowest(q) % divisor
    if p_residue != q_residue:
        return [DIFFERENT_RESIDUES, divisor, p_residue, q_residue]
    return [OUT_OF_REACH, least_meeting(p, q, divisor)]
