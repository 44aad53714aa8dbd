"""What two progressions have in common, found by congruences and not by walking through them."""

from cutnotation.progressions import Progression, highest, lowest, turned


def gcd(a, b):
    larger = a
    smaller = b
    while smaller != 0:
        rest = larger % smaller
        larger = smaller
        smaller = rest
    return larger


# To try every factor would take up to 10^18 steps; Euclid's way, which carries the factor along, takes some ninety.
def inverse(number, modulus):
    larger = modulus
    smaller = number % modulus
    larger_factor = 0
    smaller_factor = 1
    while smaller != 0:
        quotient = larger // smaller
        rest = larger - quotient * smaller
        rest_factor = larger_factor - quotient * smaller_factor
        larger = smaller
        larger_factor = smaller_factor
        smaller = rest
        smaller_factor = rest_factor
    return larger_factor % modulus


# High ends are left out of account here, so the number may lie beyond both progressions.
# The divisor of the steps must divide the distance of the low ends, else there is no such number.
def least_meeting(p, q, divisor):
    p_step = abs(p.step)
    q_rest = abs(q.step) // divisor
    distance = (lowest(q) - lowest(p)) // divisor
    steps = distance * inverse(p_step // divisor, q_rest) % q_rest
    meeting = lowest(p) + steps * p_step
    bound = max(lowest(p), lowest(q))
    return bound + (meeting - bound) % (p_step * q_rest)


def intersection(p, q):
    if p.count == 0 or q.count == 0:
        return Progression(0, 0, 1)
    divisor = gcd(abs(p.step), abs(q.step))
    if (lowest(q) - lowest(p)) % divisor != 0:
        return Progression(0, 0, 1)
    least = least_meeting(p, q, divisor)
    stride = abs(p.step) // divisor * abs(q.step)
    bound = min(highest(p), highest(q))
    upward = Progression((bound - least) // stride + 1, least, stride)
    return turned(upward) if p.step < 0 else upward
