"""The calls on chance: 11 to 16.

Each function answers the call's numbers: 0 and what is told, or a refusal alone. What would refuse is
looked for from the refusal nearest to 0 on. No call here asks or changes what a line keeps.
"""

from wordsheard.chance import as_unlike, by_chance_rare, is_rare, lowest_terms, ways_to_guess, ways_to_share
from wordsheard.limits import MOST_CHOICES, MOST_TIMES, OUT_OF_RANGE, WRONG_COUNT
from wordsheard.limits import all_within, is_level


def scores_refusal(right, times):
    """The refusal that is due where so many are right of so many times, each with its own, or 0."""
    if not all_within(right, 0, MOST_TIMES) or not all_within(times, 1, MOST_TIMES):
        return OUT_OF_RANGE
    if any([some > every for some, every in zip(right, times)]):
        return WRONG_COUNT
    return 0


def unlike(x, n, y, m):
    """Call 11: how often by chance as unlike or more so, x or fewer, x or more."""
    refusal = scores_refusal([x, y], [n, m])
    if refusal < 0:
        return [refusal]
    ways = ways_to_share(n, m, x + y)
    told = [0]
    for some in [as_unlike(ways, x), sum(ways[:x + 1]), sum(ways[x:])]:
        told.extend(lowest_terms(some, sum(ways)))
    return told


def shares(x, n, y, m):
    """Call 12: in how many ways the first list has x, and how many ways there are in all."""
    refusal = scores_refusal([x, y], [n, m])
    if refusal < 0:
        return [refusal]
    ways = ways_to_share(n, m, x + y)
    return [0, ways[x], sum(ways)]


def alike(x, n, m, e, f):
    """Call 13: each y of m that isn't unlike x of n by more than chance at e/f."""
    if not is_level(e, f) or not 1 <= m <= MOST_TIMES:
        return [OUT_OF_RANGE]
    refusal = scores_refusal([x], [n])
    if refusal < 0:
        return [refusal]
    return [0] + [y for y in range(m + 1) if not by_chance_rare(x, n, y, m, e, f)]


def least(a, b, c, d, e, f):
    """Call 14: the least length of both lists at which the scores a/b and c/d are unlike by more than chance."""
    if not is_level(e, f):
        return [OUT_OF_RANGE]
    refusal = scores_refusal([a, c], [b, d])
    if refusal < 0:
        return [refusal]
    for n in range(1, MOST_TIMES + 1):
        if a * n % b == 0 and c * n % d == 0 and by_chance_rare(a * n // b, n, c * n // d, n, e, f):
            return [0, 1, n]
    return [0, 0]


def guess(n, x, k):
    """Call 15: how often a guesser with k choices has x or more of n right."""
    if not 1 <= k <= MOST_CHOICES:
        return [OUT_OF_RANGE]
    refusal = scores_refusal([x], [n])
    if refusal < 0:
        return [refusal]
    ways = ways_to_guess(n, k)
    return [0] + lowest_terms(sum(ways[x:]), sum(ways))


def beyond(n, k, e, f):
    """Call 16: the least x of n that a guesser with k choices comes to, or beyond it, rarely at e/f."""
    if not 1 <= n <= MOST_TIMES or not 1 <= k <= MOST_CHOICES or not is_level(e, f):
        return [OUT_OF_RANGE]
    ways = ways_to_guess(n, k)
    for x in range(n + 1):
        if is_rare(sum(ways[x:]), sum(ways), e, f):
            return [0, 1, x]
    return [0, 0]
