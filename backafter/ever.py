"""New numbers of powers and rings, and the first one of all that is below 0.

Here w(b, n) is the new number of n of the row of b, b to the 2, b to the 3 and so on. The new number of n of a rule
without places is a sum of counts times some w(b, n), and n times the count of rings of n things.
"""

from backafter.powers import to_power


def new_number(powers, rings, n):
    """Return the new number of n of powers and rings, told by dicts of their counts."""
    found = n * rings.get(n, 0)
    for divisor, sign in _signed_divisors(n):
        found += sign * sum([count * to_power(base, divisor) for base, count in powers.items()])
    return found


def first_below(powers, rings, start):
    """Return the least n from start on, an integer from 8 on, whose new number is below 0, None if there is none."""
    # What powers keep from being below 0, rings can bring there just at their own n, with a count below 0.
    found = [n for n, count in rings.items() if n >= start and count < 0 and new_number(powers, rings, n) < 0]
    for times, weights in _strands(powers):
        m = _next_doubt(weights, (start + times - 1) // times)
        while m is not None and new_number(powers, rings, times * m) >= 0:
            m = _next_doubt(weights, m + 1)
        if m is not None:
            found.append(times * m)
    return min(found, default=None)


def _signed_divisors(n):
    """Return (d, sign) for each d of whose number the new number of n is made up, by adding and taking away."""
    found = [(n, 1)]
    rest = n
    prime = 2
    while rest > 1:
        if prime * prime > rest:
            prime = rest
        if rest % prime == 0:
            found = found + [(divisor // prime, -sign) for divisor, sign in found]
        while rest % prime == 0:
            rest = rest // prime
        prime += 1
    return found


def _strands(powers):
    """Return pairs (times, weights), of which each n has one that tells its new number for powers.

    It is the sum of all weights, each times the w(b, m) of its base b, where n is times * m. Bases below 2 are left
    out, as w(1, m) is 0 for m from 2 on.
    """
    if all([base >= 0 for base in powers]):
        return [(1, _weights(list(powers.items())))]
    odd = [(abs(base), count if base > 0 else -count) for base, count in powers.items()]
    even = [(abs(base), count) for base, count in powers.items()]
    squares = [(base * base, count) for base, count in even]
    return [
        # For odd n, w(-b, n) is -w(b, n).
        (1, _weights(odd)),
        # For multiples of 4, w(-b, n) is w(b, n).
        (1, _weights(even)),
        # For n = 2 * m with an odd m, w(b, n) is w(b * b, m) - w(b, m), and w(-b, n) is w(b * b, m) + w(b, m).
        (2, _weights(squares + [(base, -count) for base, count in odd])),
    ]


def _weights(pairs):
    """Return a dict of the sums of the weights of each base from 2 on."""
    found = {}
    for base, weight in pairs:
        if base >= 2:
            found[base] = found.get(base, 0) + weight
    return found


def _next_doubt(weights, start):
    """Return the least m from start on where the sum of all weight times w(base, m) may be below 0, None if none is."""
    gains = [(base, weight) for base, weight in weights.items() if weight > 0]
    losses = [(base, -weight) for base, weight in weights.items() if weight < 0]
    if len(losses) == 0:
        return None
    most = max([base for base, weight in losses])
    m = 0
    leap = start
    while True:
        gains = _grown(gains, leap)
        losses = _grown(losses, leap)
        m += leap
        spare = _surely(sum([number for base, number in gains]), m) - sum([number for base, number in losses])
        if spare < 0:
            return m
        # Divide all by most ** m. Then the losses do not grow from step to step; the gains fall by fall / most with the
        # next step, and by no more with any later one. So what is to spare lasts for some steps, or for ever.
        fall = sum([number * (most - base) for base, number in gains])
        if fall <= 0:
            return None
        # A fall that is nearly none soon becomes a rise. To leap very far for it would only make great numbers.
        leap = min(m, 1 + spare * most // fall)


def _grown(numbers, leap):
    """Return pairs of bases and numbers, with the numbers times the base to so high a power."""
    return [(base, number * to_power(base, leap)) for base, number in numbers]


def _surely(total, m):
    """Return what a sum of counts times w(b, m) is at least if that of the counts times b ** m is this total."""
    # For b from 2 on, all w(b, d) of divisors d below m together are less than 2 * b ** (m // 2), which is no more than
    # one part of 2 ** (m // 2 - 1) of b ** m. The rest of it is w(b, m), which is never more than b ** m.
    return total - (total >> (m // 2 - 1)) - 1
