"""answers(calls) as a whole: its form, what it leaves alone, its time, and refused calls in mixed lines."""

import contextlib
import io
import sys
import time
import unittest
from random import Random

from tests.helper import FAR, answer, answered, best, bound, confusions, drop, forget, joined, part, score
from tests.helper import some_words, sounds, uneven, word, words_told
from wordsheard.laboratory import answers


class Untouchable(list):
    """A list that fails on every change, for a while or for good."""

    def fail(self, *args, **keywords):
        raise AssertionError("the list that was handed in was changed")

    append = extend = insert = pop = remove = clear = sort = reverse = fail
    __setitem__ = __delitem__ = __iadd__ = __imul__ = fail


def any_number(source, low, high):
    """Mostly within the range, now and then beside it or far off."""
    if source.random() < 0.06:
        return source.choice([low - 1, high + 1, -FAR, FAR])
    return source.randint(low, high)


def any_parting(source, how_many):
    k = source.choice([2, 2, 3, 4])
    row = [place % k for place in range(how_many)]
    source.shuffle(row)
    if source.random() < 0.2:
        row = [any_number(source, 0, 3) for place in range(source.randint(0, 12))]
    return k, row


def any_call(source, words):
    """A call that suits the words more often than not; words are those that a line so far may have."""
    number = source.choice([0, 0, 0, 1, 2, 3, 3, 4, 5, 6, 7, 7, 7, 7, 8, 9, 10])
    if number == 0:
        row = [any_number(source, 0, 3) for place in range(source.randint(0, 7))]
        words.append(row)
        return word(row)
    if number == 7 and words:
        w = any_number(source, 0, len(words) - 1)
        said = words[w % len(words)]
        return answer(w, [source.choice([sound, any_number(source, -1, 3)]) for sound in said])
    if number in (3, 5):
        k, row = any_parting(source, min(len(words), 10))
        return uneven(k, row) if number == 3 else best(k, row)
    plain = {1: drop(), 2: part(any_number(source, 2, 4)), 4: bound(any_number(source, 2, 4)), 6: sounds(),
             7: answer(0, []), 8: forget(), 9: score(), 10: confusions()}
    return plain[number]


def mixed_line(seed):
    source = Random(seed)
    words = []
    return [any_call(source, words) for place in range(100)]


class Form(unittest.TestCase):
    def test_one_list_with_counts(self):
        self.assertEqual(answers([0, 2, 5, 6, 6, 1, 1, 9]), [2, 0, 0, 5, 0, 5, 1, 6, 1, 2, 0, 0, 1, -2, 5, 0, 0, 0, 0, 0])

    def test_one_call(self):
        self.assertEqual(answers([6]), [1, 0])
        self.assertEqual(answers([0, 0]), [1, -1])
        self.assertEqual(answers([2, FAR]), [1, -1])

    def test_empty_and_long_rows_are_passed_over(self):
        self.assertEqual(answers([0, 20] + [6] * 20 + [3, 2, 0, 5, -FAR, 20] + [9] * 20 + [7, 0, 0, 6]),
                         [1, -1, 1, -6, 1, -1, 1, -3, 1, 0])

    def test_whole_numbers_alone(self):
        given = answers(joined(words_told([[1], [2]]) + [best(2, [0, 1]), answer(0, [1]), part(2), score()]))
        self.assertEqual({kind.__name__ for kind in map(type, given)}, {"int"})
        self.assertIs(type(given), list)

    def test_a_new_object_each_time(self):
        line = joined([word([1]), answer(0, [1]), score(), sounds()])
        first = answers(line)
        self.assertEqual(first, [2, 0, 0, 3, 0, 1, 1, 5, 0, 1, 1, 1, 1, 3, 0, 1, 1])
        self.assertEqual(answers(line), first)
        self.assertEqual(answers([9, 6, 10]), [5, 0, 0, 0, 0, 0, 1, 0, 1, 0])

    def test_the_list_handed_in_stays(self):
        for seed in range(20):
            line = joined(mixed_line(seed))
            before = list(line)
            given = answers(line)
            self.assertEqual(line, before)
            self.assertEqual(answers(Untouchable(line)), given)
            self.assertEqual(answers(line), given)

    def test_what_is_given_back_is_no_ones_else(self):
        line = joined([word([1]), sounds()])
        given = answers(line)
        given.clear()
        self.assertEqual(answers(line), [2, 0, 0, 3, 0, 1, 1])

    def test_nothing_is_printed_or_imported(self):
        line = joined(mixed_line(3))
        modules = sorted(sys.modules)
        with contextlib.redirect_stdout(io.StringIO()) as out, contextlib.redirect_stderr(io.StringIO()) as err:
            answers(line)
        self.assertEqual((out.getvalue(), err.getvalue()), ("", ""))
        self.assertEqual(sorted(sys.modules), modules)


class RefusedCallsInMixedLines(unittest.TestCase):
    def test_as_if_they_had_not_been_there(self):
        refusals = {}
        for seed in range(150):
            calls = mixed_line(seed)
            found = answered(calls)
            taken = [place for place, told in enumerate(found) if told[0] == 0]
            for told in found:
                if told[0] < 0:
                    self.assertEqual(len(told), 1)
                    refusals[told[0]] = refusals.get(told[0], 0) + 1
            with self.subTest(seed=seed):
                self.assertEqual(answered([calls[place] for place in taken]), [found[place] for place in taken])
        # The lines are of use only while they bring each kind of refusal.
        self.assertEqual(sorted(refusals), [-8, -7, -6, -5, -4, -3, -2, -1])


class Time(unittest.TestCase):
    def check(self, how_many, k):
        words = words_told(some_words(how_many, how_many, 39, 6))
        row = [place % k for place in range(how_many)]
        calls = (words + [part(k), best(k, row)] * 50)[:100]
        begin = time.perf_counter()
        found = answered(calls)
        self.assertLess(time.perf_counter() - begin, 5)
        self.assertEqual([told[0] for told in found], [0] * 100)

    def test_a_hundred_calls_with_many_partings(self):
        for how_many, k in [(10, 2), (9, 3), (8, 4)]:
            with self.subTest(how_many=how_many, k=k):
                self.check(how_many, k)


if __name__ == "__main__":
    unittest.main()
