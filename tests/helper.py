"""Calls written as functions, answers taken apart, and partings and chances walked plainly."""

from fractions import Fraction
from itertools import combinations, product
from math import comb
from random import Random

from wordsheard.laboratory import answers

FAR = 10 ** 18


def word(sounds):
    return [0, len(sounds)] + list(sounds)


def drop():
    return [1]


def part(k):
    return [2, k]


def uneven(k, parting):
    return [3, k, len(parting)] + list(parting)


def bound(k):
    return [4, k]


def best(k, parting):
    return [5, k, len(parting)] + list(parting)


def sounds():
    return [6]


def answer(w, heard):
    return [7, w, len(heard)] + list(heard)


def forget():
    return [8]


def score():
    return [9]


def confusions():
    return [10]


def unlike(x, n, y, m):
    return [11, x, n, y, m]


def shares(x, n, y, m):
    return [12, x, n, y, m]


def alike(x, n, m, e, f):
    return [13, x, n, m, e, f]


def least(a, b, c, d, e, f):
    return [14, a, b, c, d, e, f]


def guess(n, x, k):
    return [15, n, x, k]


def beyond(n, k, e, f):
    return [16, n, k, e, f]


def told():
    return [17]


def exchange(k, i, j, parting):
    return [18, k, i, j, len(parting)] + list(parting)


def of_word(w):
    return [19, w]


def sizes():
    return [20]


def joined(calls):
    """The calls one behind another, as they are handed in."""
    line = []
    for call in calls:
        line.extend(call)
    return line


def taken_apart(given):
    """The single calls' answers."""
    found = []
    at = 0
    while at < len(given):
        end = at + 1 + given[at]
        found.append(given[at + 1:end])
        at = end
    return found


def answered(calls):
    """The answers to the calls, one list a call."""
    found = taken_apart(answers(joined(calls)))
    assert len(found) == len(calls), (len(found), len(calls))
    return found


def last_answer(calls):
    return answered(calls)[-1]


def words_told(words):
    return [word(row) for row in words]


# Asked behind a refused call, these tell whether anything has changed.
WATCHERS = [sounds(), score(), confusions(), part(2), part(3), part(4), bound(2), told(), sizes()]
WATCHERS += [of_word(w) for w in range(10)]


def watched(before, call):
    """What the call answers; what the watchers tell behind it; what they tell where it wasn't called."""
    found = answered(before + [call] + WATCHERS)
    return found[len(before)], found[len(before) + 1:], answered(before + WATCHERS)[len(before):]


def all_partings(how_many, k):
    """Every parting, in the order of comparing number by number."""
    size = how_many // k
    return [row for row in product(range(k), repeat=how_many)
            if all(row.count(place) == size for place in range(k))]


def plainly_uneven(words, k, parting):
    """How uneven, straight from the document's sentence."""
    total = 0
    for sound in range(40):
        counts = [0] * k
        for row, place in zip(words, parting):
            counts[place] += row.count(sound)
        total += sum((one - other) ** 2 for one, other in combinations(counts, 2))
    return total


def plain_bound(words, k):
    total = 0
    for sound in range(40):
        remainder = sum(row.count(sound) for row in words) % k
        total += remainder * (k - remainder)
    return total


def plain_ways(n, m, right):
    """By how many the first list has: in how many ways the right ones are shared out."""
    return [comb(n, i) * comb(m, right - i) if i <= right else 0 for i in range(n + 1)]


def plain_chance(x, n, y, m):
    """How often by chance as unlike or more so, straight from the document's sentence."""
    ways = plain_ways(n, m, x + y)
    return Fraction(sum(these for these in ways if these <= ways[x]), comb(n + m, x + y))


def plain_guess(n, x, k):
    """How often a guesser has x or more of n right."""
    return Fraction(sum(comb(n, i) * (k - 1) ** (n - i) for i in range(x, n + 1)), k ** n)


def some_words(seed, how_many, last_sound, longest):
    """Words that are the same each time for the same seed."""
    source = Random(seed)
    return [[source.randint(0, last_sound) for place in range(source.randint(1, longest))]
            for number in range(how_many)]
