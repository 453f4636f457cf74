"""answers(calls) as a whole: its form, what it leaves alone, its time, and refused calls in mixed lines."""

import contextlib
import io
import sys
import time
import unittest
from random import Random

from tests.helper import FAR, alike, answer, answered, best, beyond, bound, confusions, drop, exchange, forget, guess
from tests.helper import joined, least, of_word, part, score, shares, sizes, some_words, sounds, told, uneven, unlike
from tests.helper import word, words_told
from wordsheard.laboratory import answers


class Untouchable(list):
    """A list that fails on every change, for a while or for good."""

    def fail(self, *args, **keywords):
        raise AssertionError("the list that was handed in was changed")

    append = extend = insert = pop = remove = clear = sort = reverse = fail
    __setitem__ = __delitem__ = __iadd__ = __imul__ = fail


def any_number(source, low, high):
    """Mostly within the range, now and then beside it or far off."""
    if source.random() < 0.06:
        return source.choice([low - 1, high + 1, -FAR, FAR])
    return source.randint(low, high)


def any_parting(source, how_many):
    k = source.choice([2, 2, 3, 4])
    row = [place % k for place in range(how_many)]
    source.shuffle(row)
    if source.random() < 0.2:
        row = [any_number(source, 0, 3) for place in range(source.randint(0, 12))]
    return k, row


def any_score(source):
    """How many right of how many times, mostly no more than there are."""
    n = any_number(source, 1, source.choice([4, 60]))
    x = any_number(source, 0, min(max(n, 0), 60))
    return x + (source.random() < 0.05), n


def any_chance_call(source, number):
    x, n = any_score(source)
    y, m = any_score(source)
    e = any_number(source, 0, source.choice([10, 1000]))
    f = any_number(source, 1, 1000)
    k = any_number(source, 1, 20)
    calls = {11: unlike(x, n, y, m), 12: shares(x, n, y, m), 13: alike(x, n, m, e, f), 14: least(x, n, y, m, e, f),
             15: guess(n, x, k), 16: beyond(n, k, e, f)}
    return calls[number]


def any_call(source, words):
    """A call that suits the words more often than not; words are those that a line so far may have."""
    number = source.choice([0, 0, 0, 1, 2, 3, 3, 4, 5, 6, 7, 7, 7, 7, 8, 9, 10] + list(range(11, 21)) + [18])
    if number == 0:
        row = [any_number(source, 0, 3) for place in range(source.randint(0, 7))]
        words.append(row)
        return word(row)
    if number == 7 and words:
        w = any_number(source, 0, len(words) - 1)
        said = words[w % len(words)]
        return answer(w, [source.choice([sound, any_number(source, -1, 3)]) for sound in said])
    if number in (3, 5, 18):
        k, row = any_parting(source, min(len(words), 10))
        i = any_number(source, 0, 9)
        j = any_number(source, 0, 9)
        return {3: uneven(k, row), 5: best(k, row), 18: exchange(k, i, j, row)}[number]
    if number in range(11, 17):
        return any_chance_call(source, number)
    plain = {1: drop(), 2: part(any_number(source, 2, 4)), 4: bound(any_number(source, 2, 4)), 6: sounds(),
             7: answer(0, []), 8: forget(), 9: score(), 10: confusions(), 17: told(),
             19: of_word(any_number(source, 0, 9)), 20: sizes()}
    return plain[number]


def mixed_line(seed):
    source = Random(seed)
    words = []
    begun = []
    if seed % 10 == 0:
        # Calls chosen one by one would hardly ever come to as many trials as there may be.
        words.append([1])
        begun = [word([1])] + [answer(0, [1])] * 60
    return begun + [any_call(source, words) for place in range(100 - len(begun))]


class Form(unittest.TestCase):
    def test_one_list_with_counts(self):
        self.assertEqual(answers([0, 2, 5, 6, 6, 1, 1, 9]),
                         [2, 0, 0, 5, 0, 5, 1, 6, 1, 2, 0, 0, 1, -2, 5, 0, 0, 0, 0, 0])

    def test_one_call(self):
        self.assertEqual(answers([6]), [1, 0])
        self.assertEqual(answers([0, 0]), [1, -1])
        self.assertEqual(answers([2, FAR]), [1, -1])

    def test_all_calls_one_behind_another(self):
        line = [0, 1, 5, 0, 1, 6, 2, 2, 3, 2, 2, 0, 1, 4, 2, 5, 2, 2, 1, 0, 6, 7, 0, 1, 5, 9, 10, 11, 2, 2, 0, 3,
                12, 2, 2, 0, 3, 13, 2, 2, 3, 2, 5, 14, 0, 1, 1, 1, 1, 3, 15, 2, 1, 3, 16, 2, 3, 5, 9, 17,
                18, 2, 0, 1, 2, 0, 1, 19, 0, 20, 8, 1, 20]
        expected = [2, 0, 0, 2, 0, 1, 4, 0, 2, 0, 1, 2, 0, 2, 2, 0, 2, 3, 0, 1, 1, 5, 0, 5, 1, 6, 1, 3, 0, 1, 1,
                    5, 0, 1, 1, 1, 1, 4, 0, 5, 5, 1, 7, 0, 1, 10, 1, 1, 1, 10, 3, 0, 1, 10, 3, 0, 2, 3, 3, 0, 1, 2,
                    3, 0, 5, 9, 3, 0, 1, 1, 5, 0, 1, 5, 1, 6, 4, 0, 2, 1, 0, 4, 0, 1, 1, 1, 5, 0, 2, 2, 2, 1,
                    2, 0, 0, 2, 0, 1, 5, 0, 1, 1, 1, 0]
        self.assertEqual(answers(line), expected)

    def test_numbers_far_off_are_passed_over(self):
        line = []
        for call, how_many in [(2, 1), (4, 1), (11, 4), (12, 4), (13, 5), (14, 6), (15, 3), (16, 4), (19, 1)]:
            line += [call] + [FAR] * how_many + [call] + [-FAR] * how_many
        line += [18, FAR, -FAR, FAR, 20] + [-FAR] * 20 + [18, 2, 0, 0, 0] + [20]
        self.assertEqual(answers(line), [1, -1] * 19 + [1, -3, 5, 0, 0, 0, 0, 0])

    def test_empty_and_long_rows_are_passed_over(self):
        self.assertEqual(answers([0, 20] + [6] * 20 + [3, 2, 0, 5, -FAR, 20] + [9] * 20 + [7, 0, 0, 6]),
                         [1, -1, 1, -6, 1, -1, 1, -3, 1, 0])

    def test_whole_numbers_alone(self):
        calls = words_told([[1], [2]]) + [best(2, [0, 1]), answer(0, [1]), part(2), score()]
        calls += [unlike(1, 2, 1, 3), shares(1, 2, 1, 3), alike(1, 2, 3, 1, 9), least(0, 1, 1, 1, 1, 9), guess(3, 2, 4),
                  beyond(4, 3, 1, 9), told(), exchange(2, 0, 1, [0, 1]), of_word(0), sizes()]
        given = answers(joined(calls))
        self.assertEqual({kind.__name__ for kind in map(type, given)}, {"int"})
        self.assertIs(type(given), list)

    def test_a_new_object_each_time(self):
        line = joined([word([1]), answer(0, [1]), score(), sounds()])
        first = answers(line)
        self.assertEqual(first, [2, 0, 0, 3, 0, 1, 1, 5, 0, 1, 1, 1, 1, 3, 0, 1, 1])
        self.assertEqual(answers(line), first)
        self.assertEqual(answers([9, 6, 10]), [5, 0, 0, 0, 0, 0, 1, 0, 1, 0])

    def test_the_list_handed_in_stays(self):
        for seed in range(20):
            line = joined(mixed_line(seed))
            before = list(line)
            given = answers(line)
            self.assertEqual(line, before)
            self.assertEqual(answers(Untouchable(line)), given)
            self.assertEqual(answers(line), given)

    def test_what_is_given_back_is_no_ones_else(self):
        line = joined([word([1]), sounds()])
        given = answers(line)
        given.clear()
        self.assertEqual(answers(line), [2, 0, 0, 3, 0, 1, 1])

    def test_nothing_is_printed_or_imported(self):
        line = joined(mixed_line(3))
        modules = sorted(sys.modules)
        with contextlib.redirect_stdout(io.StringIO()) as out, contextlib.redirect_stderr(io.StringIO()) as err:
            answers(line)
        self.assertEqual((out.getvalue(), err.getvalue()), ("", ""))
        self.assertEqual(sorted(sys.modules), modules)


# By the call: 0, and the refusals that the document names for it.
ANSWERED_OR_REFUSED = {
    0: {0, -1, -8}, 1: {0, -2, -5}, 2: {0, -1, -6}, 3: {0, -1, -6, -7}, 4: {0, -1, -6}, 5: {0, -1, -6, -7}, 6: {0},
    7: {0, -1, -3, -4, -8}, 8: {0, -2}, 9: {0}, 10: {0}, 11: {0, -1, -4}, 12: {0, -1, -4}, 13: {0, -1, -4},
    14: {0, -1, -4}, 15: {0, -1, -4}, 16: {0, -1}, 17: {0}, 18: {0, -1, -3, -6, -7}, 19: {0, -1, -3}, 20: {0},
}


class RefusedCallsInMixedLines(unittest.TestCase):
    def test_as_if_they_had_not_been_there(self):
        refusals = {}
        for seed in range(200):
            calls = mixed_line(seed)
            found = answered(calls)
            taken = [place for place, these in enumerate(found) if these[0] == 0]
            for call, these in zip(calls, found):
                if these[0] < 0:
                    self.assertEqual(len(these), 1)
                refusals.setdefault(call[0], set()).add(these[0])
            with self.subTest(seed=seed):
                self.assertEqual(answered([calls[place] for place in taken]), [found[place] for place in taken])
        # The lines are of use only while each call is answered in them and brings each of its refusals.
        self.assertEqual(refusals, ANSWERED_OR_REFUSED)


class Time(unittest.TestCase):
    def check(self, calls):
        self.assertEqual(len(calls), 100)
        line = joined(calls)
        begin = time.perf_counter()
        answers(line)
        self.assertLess(time.perf_counter() - begin, 5)
        self.assertEqual([these[0] for these in answered(calls)], [0] * 100)

    def test_a_hundred_calls_with_many_partings(self):
        for how_many, k in [(10, 2), (9, 3), (8, 4)]:
            words = words_told(some_words(how_many, how_many, 39, 6))
            row = [place % k for place in range(how_many)]
            with self.subTest(how_many=how_many, k=k):
                self.check((words + [part(k), best(k, row)] * 50)[:100])

    def test_a_hundred_calls_on_chance(self):
        for call in [alike(30, 60, 60, 0, 1000), least(0, 1, 1, 1, 0, 1), least(60, 60, 0, 60, 0, 1000),
                     unlike(30, 60, 30, 60), guess(60, 0, 20), beyond(60, 20, 0, 1000)]:
            with self.subTest(call=call):
                self.check([call] * 100)

    def test_a_hundred_calls_of_all_that_are_long(self):
        words = words_told(some_words(9, 9, 39, 6))
        row = [place % 3 for place in range(9)]
        some = [part(3), best(3, row), alike(30, 60, 60, 0, 1000), least(0, 1, 1, 1, 0, 1)]
        self.check((words + some * 25)[:100])


if __name__ == "__main__":
    unittest.main()
