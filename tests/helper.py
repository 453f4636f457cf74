"""Calls written as functions, answers taken apart, and partings walked plainly."""

from itertools import combinations, product
from random import Random

from wordsheard.laboratory import answers

FAR = 10 ** 18


def word(sounds):
    return [0, len(sounds)] + list(sounds)


def drop():
    return [1]


def part(k):
    return [2, k]


def uneven(k, parting):
    return [3, k, len(parting)] + list(parting)


def bound(k):
    return [4, k]


def best(k, parting):
    return [5, k, len(parting)] + list(parting)


def sounds():
    return [6]


def answer(w, heard):
    return [7, w, len(heard)] + list(heard)


def forget():
    return [8]


def score():
    return [9]


def confusions():
    return [10]


def joined(calls):
    """The calls one behind another, as they are handed in."""
    line = []
    for call in calls:
        line.extend(call)
    return line


def taken_apart(given):
    """The single calls' answers."""
    found = []
    at = 0
    while at < len(given):
        end = at + 1 + given[at]
        found.append(given[at + 1:end])
        at = end
    return found


def answered(calls):
    """The answers to the calls, one list a call."""
    found = taken_apart(answers(joined(calls)))
    assert len(found) == len(calls), (len(found), len(calls))
    return found


def last_answer(calls):
    return answered(calls)[-1]


def words_told(words):
    return [word(row) for row in words]


# Asked behind a refused call, these tell whether anything has changed.
WATCHERS = [sounds(), score(), confusions(), part(2), part(3), part(4), bound(2)]


def all_partings(how_many, k):
    """Every parting, in the order of comparing number by number."""
    size = how_many // k
    return [row for row in product(range(k), repeat=how_many)
            if all(row.count(place) == size for place in range(k))]


def plainly_uneven(words, k, parting):
    """How uneven, straight from the document's sentence."""
    total = 0
    for sound in range(40):
        counts = [0] * k
        for row, place in zip(words, parting):
            counts[place] += row.count(sound)
        total += sum((one - other) ** 2 for one, other in combinations(counts, 2))
    return total


def plain_bound(words, k):
    total = 0
    for sound in range(40):
        remainder = sum(row.count(sound) for row in words) % k
        total += remainder * (k - remainder)
    return total


def some_words(seed, how_many, last_sound, longest):
    """Words that are the same each time for the same seed."""
    source = Random(seed)
    return [[source.randint(0, last_sound) for place in range(source.randint(1, longest))]
            for number in range(how_many)]
