"""Chance: all ways to share out right answers, and all that a guesser may come to.

Ways are a list: at place i, in how many ways it comes to i right ones. All of them together are all ways.
"""


def ways_to_take(n):
    """In how many ways 0, 1 and so on up to n of n things can be taken."""
    ways = [1]
    for i in range(n):
        ways.append(ways[i] * (n - i) // (i + 1))
    return ways


def ways_to_share(n, m, right):
    """In how many ways so many right ones are shared out, by how many the first list has, 0 to n."""
    first = ways_to_take(n)
    second = ways_to_take(m)
    return [taken * second[right - i] if 0 <= right - i <= m else 0 for i, taken in enumerate(first)]


def ways_to_guess(n, k):
    """In how many of a guesser's ways with k choices each time 0, 1 and so on up to n of n times are right."""
    wrong = [1]
    for turn in range(n):
        wrong.append(wrong[turn] * (k - 1))
    return [taken * wrong[n - i] for i, taken in enumerate(ways_to_take(n))]


def as_unlike(ways, x):
    """All the ways of those i whose ways are no more than those of x."""
    return sum([these for these in ways if these <= ways[x]])


def is_rare(some, every, e, f):
    """Whether some ways over every way is no more than e/f."""
    return some * f <= e * every


def lowest_terms(some, every):
    """Some ways over every way as a fraction's two numbers."""
    divisor = every
    rest = some
    while rest > 0:
        smaller = divisor % rest
        divisor = rest
        rest = smaller
    return [some // divisor, every // divisor]


def by_chance_rare(x, n, y, m, e, f):
    """Whether it's rare at e/f that x of n and y of m are as unlike or more so."""
    ways = ways_to_share(n, m, x + y)
    return is_rare(as_unlike(ways, x), sum(ways), e, f)
