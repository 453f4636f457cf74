"""Calls 11 to 16: unlike, shares, alike, least, guess, beyond."""

import unittest
from fractions import Fraction
from itertools import combinations, product
from math import comb
from random import Random

from tests.helper import FAR, alike, answer, answered, beyond, guess, last_answer, least, plain_chance, plain_guess
from tests.helper import plain_ways, shares, unlike, watched, word

LEVELS = [(0, 1), (0, 1000), (1, 1000), (1, 100), (5, 100), (1, 10), (1, 3), (2, 4), (999, 1000), (1, 1), (1000, 1000),
          (3, 2), (1000, 1)]


def numbers_of(fraction):
    return [fraction.numerator, fraction.denominator]


class SharedOutByHand(unittest.TestCase):
    def test_two_lists_of_four(self):
        # 4 right ones: 1, 16, 36, 16, 1 ways, 70 in all. As few as the 16 of 3 have 0, 1, 3 and 4: 34.
        self.assertEqual(last_answer([unlike(3, 4, 1, 4)]), [0, 17, 35, 69, 70, 17, 70])
        self.assertEqual(last_answer([shares(3, 4, 1, 4)]), [0, 16, 70])
        self.assertEqual(last_answer([unlike(2, 4, 2, 4)]), [0, 1, 1, 53, 70, 53, 70])
        self.assertEqual(last_answer([unlike(0, 4, 4, 4)]), [0, 1, 35, 1, 70, 1, 1])

    def test_lists_that_are_not_as_long(self):
        # 2 right ones of lists of 2 and 3: 3, 6, 1 ways, 10 in all.
        self.assertEqual(last_answer([unlike(2, 2, 0, 3)]), [0, 1, 10, 1, 1, 1, 10])
        self.assertEqual(last_answer([unlike(0, 2, 2, 3)]), [0, 2, 5, 3, 10, 1, 1])
        self.assertEqual(last_answer([unlike(1, 2, 1, 3)]), [0, 1, 1, 9, 10, 7, 10])
        self.assertEqual(answered([shares(0, 2, 2, 3), shares(1, 2, 1, 3), shares(2, 2, 0, 3)]),
                         [[0, 3, 10], [0, 6, 10], [0, 1, 10]])

    def test_ways_that_are_just_as_many_are_among_them(self):
        # 2 right ones of lists of 1 and 3: 3 and 3 ways.
        self.assertEqual(last_answer([unlike(0, 1, 2, 3)]), [0, 1, 1, 1, 2, 1, 1])
        self.assertEqual(last_answer([unlike(1, 1, 1, 3)]), [0, 1, 1, 1, 1, 1, 2])

    def test_one_way_alone(self):
        for n, m in [(1, 1), (5, 7), (60, 60), (1, 60), (60, 1)]:
            with self.subTest(n=n, m=m):
                found = answered([unlike(0, n, 0, m), unlike(n, n, m, m), shares(0, n, 0, m), shares(n, n, m, m)])
                self.assertEqual(found, [[0, 1, 1, 1, 1, 1, 1]] * 2 + [[0, 1, 1]] * 2)

    def test_the_longest_lists(self):
        every = 96614908840363322603893139521372656
        self.assertEqual(answered([shares(60, 60, 0, 60), shares(0, 60, 60, 60)]), [[0, 1, every]] * 2)
        self.assertEqual(last_answer([unlike(60, 60, 0, 60)]), [0, 1, every // 2, 1, 1, 1, every])


class SharedOutAgainstAPlainWalk(unittest.TestCase):
    def check(self, x, n, y, m):
        ways = plain_ways(n, m, x + y)
        every = comb(n + m, x + y)
        fractions = [plain_chance(x, n, y, m), Fraction(sum(ways[:x + 1]), every), Fraction(sum(ways[x:]), every)]
        expected = [[0] + [number for one in fractions for number in numbers_of(one)], [0, ways[x], every]]
        with self.subTest(x=x, n=n, y=y, m=m):
            self.assertEqual(answered([unlike(x, n, y, m), shares(x, n, y, m)]), expected)

    def test_each_way_is_counted_once(self):
        for n, m in [(1, 1), (1, 4), (3, 2), (4, 4), (5, 3), (2, 6)]:
            for right in range(n + m + 1):
                rows = [sum(1 for one in row if one < n) for row in combinations(range(n + m), right)]
                often = [rows.count(i) for i in range(n + 1)]
                for x in range(max(0, right - m), min(n, right) + 1):
                    parts = [sum(these for these in often if these <= often[x]), sum(often[:x + 1]), sum(often[x:])]
                    told = [0] + [number for some in parts for number in numbers_of(Fraction(some, len(rows)))]
                    with self.subTest(n=n, m=m, right=right, x=x):
                        found = answered([unlike(x, n, right - x, m), shares(x, n, right - x, m)])
                        self.assertEqual(found, [told, [0, often[x], len(rows)]])

    def test_all_small_ones(self):
        for n, m in product(range(1, 8), repeat=2):
            for x, y in product(range(n + 1), range(m + 1)):
                self.check(x, n, y, m)

    def test_the_edges_of_long_lists(self):
        # x + y is above n, above m, above both and above neither among these.
        for n, m in [(60, 60), (60, 59), (59, 60), (60, 1), (1, 60), (60, 30), (30, 60)]:
            for x, y in product(sorted({0, 1, n // 2, n - 1, n}), sorted({0, 1, m // 2, m - 1, m})):
                self.check(x, n, y, m)

    def test_many(self):
        source = Random(11)
        for turn in range(300):
            n = source.randint(1, 60)
            m = source.choice([n, source.randint(1, 60)])
            self.check(source.randint(0, n), n, source.randint(0, m), m)


class Alike(unittest.TestCase):
    def test_by_hand(self):
        # 3 of 4 beside y of 4 is as unlike or more so in 1/7, 17/35, 1, 1, 1 of all ways for y from 0 to 4.
        for e, f, told in [(1, 8, [0, 1, 2, 3, 4]), (1, 7, [1, 2, 3, 4]), (16, 35, [1, 2, 3, 4]), (17, 35, [2, 3, 4]),
                           (34, 70, [2, 3, 4]), (999, 1000, [2, 3, 4]), (1, 1, []), (1000, 1, []),
                           (0, 1, [0, 1, 2, 3, 4]), (0, 1000, [0, 1, 2, 3, 4])]:
            with self.subTest(e=e, f=f):
                self.assertEqual(last_answer([alike(3, 4, 4, e, f)]), [0] + told)

    def test_lists_that_are_not_as_long(self):
        # 2 of 2 beside y of 3 is as unlike or more so in 1/10, 4/10, 1, 1 of all ways for y from 0 to 3.
        for e, f, told in [(1, 11, [0, 1, 2, 3]), (1, 10, [1, 2, 3]), (2, 5, [2, 3]), (39, 100, [1, 2, 3])]:
            with self.subTest(e=e, f=f):
                self.assertEqual(last_answer([alike(2, 2, 3, e, f)]), [0] + told)

    def check(self, x, n, m, e, f):
        told = [y for y in range(m + 1) if plain_chance(x, n, y, m) > Fraction(e, f)]
        with self.subTest(x=x, n=n, m=m, e=e, f=f):
            self.assertEqual(last_answer([alike(x, n, m, e, f)]), [0] + told)

    def test_against_a_plain_walk(self):
        source = Random(13)
        for n, m in [(1, 1), (1, 60), (60, 1), (60, 60), (2, 5), (9, 9), (25, 25), (12, 40)]:
            for x in sorted({0, 1, n // 2, n}):
                for e, f in source.sample(LEVELS, 4):
                    self.check(x, n, m, e, f)

    def test_just_at_the_level(self):
        # The level is the very fraction that another number of right ones has, where e and f reach that far.
        for n, m in [(3, 3), (4, 4), (3, 5), (6, 2), (5, 5)]:
            for x, y in product(range(n + 1), range(m + 1)):
                chance = plain_chance(x, n, y, m)
                self.assertLessEqual(chance.denominator, 1000)
                self.check(x, n, m, chance.numerator, chance.denominator)


class Least(unittest.TestCase):
    def test_by_hand(self):
        # Nothing of n beside all of n: 2 ways over C(2n, n), so 1, 1/3, 1/10, 1/35, 1/126, 1/462.
        for e, f, told in [(1, 1, [1, 1]), (999, 1000, [1, 2]), (1, 3, [1, 2]), (33, 100, [1, 3]), (1, 10, [1, 3]),
                           (1, 11, [1, 4]), (1, 35, [1, 4]), (1, 36, [1, 5]), (1, 462, [1, 6]), (1, 463, [1, 7]),
                           (0, 1, [0]), (1000, 1, [1, 1])]:
            for a, b, c, d in [(0, 1, 1, 1), (1, 1, 0, 1), (0, 60, 60, 60), (7, 7, 0, 3)]:
                with self.subTest(a=a, b=b, c=c, d=d, e=e, f=f):
                    self.assertEqual(last_answer([least(a, b, c, d, e, f)]), [0] + told)

    def test_the_lengths_at_which_both_are_whole(self):
        for a, b, c, d, told in [(1, 2, 1, 3, [1, 6]), (2, 4, 2, 6, [1, 6]), (3, 6, 1, 2, [1, 2]), (0, 7, 0, 9, [1, 1]),
                                 (1, 59, 1, 59, [1, 59]), (1, 60, 59, 60, [1, 60]), (1, 7, 1, 9, [0]),
                                 (1, 60, 1, 59, [0]), (30, 60, 20, 40, [1, 2]), (7, 7, 9, 9, [1, 1]),
                                 (1, 4, 1, 15, [1, 60]), (1, 15, 3, 4, [1, 60])]:
            for e, f in [(1, 1), (1000, 1)]:
                with self.subTest(a=a, b=b, c=c, d=d):
                    self.assertEqual(last_answer([least(a, b, c, d, e, f)]), [0] + told)

    def test_scores_that_are_the_same_are_never_unlike(self):
        for a, b, c, d in [(1, 2, 1, 2), (1, 2, 2, 4), (0, 5, 0, 9), (5, 5, 9, 9), (20, 60, 1, 3)]:
            with self.subTest(a=a, b=b, c=c, d=d):
                self.assertEqual(last_answer([least(a, b, c, d, 999, 1000)]), [0, 0])

    def check(self, a, b, c, d, e, f):
        told = [0, 0]
        for n in range(60, 0, -1):
            x = Fraction(a, b) * n
            y = Fraction(c, d) * n
            if x.denominator == 1 and y.denominator == 1:
                if plain_chance(x.numerator, n, y.numerator, n) <= Fraction(e, f):
                    told = [0, 1, n]
        with self.subTest(a=a, b=b, c=c, d=d, e=e, f=f):
            self.assertEqual(last_answer([least(a, b, c, d, e, f)]), told)
        return told

    def test_against_a_plain_walk(self):
        lengths = []
        rows = [(1, 2), (2, 4), (1, 3), (20, 60), (0, 1), (0, 13), (1, 1), (13, 13), (3, 4), (2, 5), (4, 10), (9, 10)]
        for one, other in product(rows, repeat=2):
            for e, f in [(5, 100), (1, 100), (1, 3)]:
                lengths.append(self.check(*one, *other, e, f)[-1])
        # The walk is of use only while it comes to many lengths, and to none.
        self.assertGreater(len(set(lengths)), 12)
        self.assertIn(0, lengths)

    def test_many(self):
        source = Random(14)
        for turn in range(150):
            b = source.choice([1, 2, 3, 4, 5, 6, 10, 12, 15, 30, 60])
            d = source.choice([b, source.choice([1, 2, 4, 5, 12, 20, 60])])
            e, f = source.choice(LEVELS)
            self.check(source.randint(0, b), b, source.randint(0, d), d, e, f)


class Guess(unittest.TestCase):
    def test_by_hand(self):
        # Two choices, four times: 6 + 4 + 1 of 16. Three, twice: 4, 4, 1 of 9. Four, three times: 9 + 1 of 64.
        for n, x, k, told in [(4, 2, 2, [11, 16]), (2, 0, 3, [1, 1]), (2, 1, 3, [5, 9]), (2, 2, 3, [1, 9]),
                              (3, 2, 4, [5, 32]), (1, 1, 20, [1, 20]), (1, 0, 20, [1, 1]), (5, 5, 1, [1, 1]),
                              (5, 0, 1, [1, 1]), (60, 60, 1, [1, 1]), (60, 0, 20, [1, 1]), (60, 60, 20, [1, 20 ** 60]),
                              (60, 60, 2, [1, 1152921504606846976])]:
            with self.subTest(n=n, x=x, k=k):
                self.assertEqual(last_answer([guess(n, x, k)]), [0] + told)

    def test_against_each_single_way(self):
        for n, k in [(1, 1), (3, 1), (1, 5), (2, 6), (4, 3), (8, 2), (5, 4)]:
            rows = [row.count(0) for row in product(range(k), repeat=n)]
            self.assertEqual(len(rows), k ** n)
            for x in range(n + 1):
                expected = Fraction(sum(1 for right in rows if right >= x), len(rows))
                with self.subTest(n=n, x=x, k=k):
                    self.assertEqual(last_answer([guess(n, x, k)]), [0] + numbers_of(expected))

    def test_against_plain_sums(self):
        for n, k in product([1, 2, 7, 30, 59, 60], [1, 2, 3, 10, 19, 20]):
            for x in sorted({0, 1, n // 3, n - 1, n}):
                with self.subTest(n=n, x=x, k=k):
                    self.assertEqual(last_answer([guess(n, x, k)]), [0] + numbers_of(plain_guess(n, x, k)))


class Beyond(unittest.TestCase):
    def test_by_hand(self):
        # Ten times with two choices: 9 or more in 11 of 1024 ways, 8 or more in 56, so in 7/128.
        # Twice with three: 1, 5/9, 1/9. With one choice always all.
        for n, k, e, f, told in [(10, 2, 5, 100, [1, 9]), (10, 2, 7, 128, [1, 8]), (10, 2, 7, 129, [1, 9]),
                                 (2, 3, 1, 1, [1, 0]), (2, 3, 999, 1000, [1, 1]), (2, 3, 5, 9, [1, 1]),
                                 (2, 3, 10, 18, [1, 1]), (2, 3, 4, 9, [1, 2]), (2, 3, 1, 9, [1, 2]), (2, 3, 1, 10, [0]),
                                 (2, 3, 0, 1, [0]), (2, 3, 1000, 1, [1, 0]), (7, 1, 1, 1, [1, 0]),
                                 (7, 1, 999, 1000, [0]), (7, 1, 3, 2, [1, 0]), (1, 20, 1, 20, [1, 1]),
                                 (1, 20, 1, 21, [0]), (1, 20, 0, 1000, [0])]:
            with self.subTest(n=n, k=k, e=e, f=f):
                self.assertEqual(last_answer([beyond(n, k, e, f)]), [0] + told)

    def test_against_plain_sums(self):
        for n, k in product([1, 2, 3, 8, 20, 60], [1, 2, 3, 7, 20]):
            for e, f in LEVELS:
                rare = [x for x in range(n + 1) if plain_guess(n, x, k) <= Fraction(e, f)]
                with self.subTest(n=n, k=k, e=e, f=f):
                    self.assertEqual(last_answer([beyond(n, k, e, f)]), [0, 1, rare[0]] if rare else [0, 0])


# By the call: numbers that are answered, and the range of each of them.
TIMES = (1, 60)
RIGHT = (0, 60)
UPPER = (0, 1000)
LOWER = (1, 1000)
CHOICES = (1, 20)
CALLS = [
    (unlike, [3, 4, 1, 4], [RIGHT, TIMES, RIGHT, TIMES]),
    (shares, [3, 4, 1, 4], [RIGHT, TIMES, RIGHT, TIMES]),
    (alike, [3, 4, 4, 1, 7], [RIGHT, TIMES, TIMES, UPPER, LOWER]),
    (least, [1, 2, 2, 3, 1, 20], [RIGHT, TIMES, RIGHT, TIMES, UPPER, LOWER]),
    (guess, [4, 2, 3], [TIMES, RIGHT, CHOICES]),
    (beyond, [4, 3, 1, 7], [TIMES, CHOICES, UPPER, LOWER]),
]


class Refused(unittest.TestCase):
    def test_each_number_just_out_of_its_range_and_far_off(self):
        for call, numbers, ranges in CALLS:
            self.assertEqual(last_answer([call(*numbers)])[0], 0)
            for place, (low, high) in enumerate(ranges):
                for number in [-FAR, low - 1, high + 1, FAR]:
                    asked = numbers[:place] + [number] + numbers[place + 1:]
                    with self.subTest(call=call.__name__, asked=asked):
                        self.assertEqual(last_answer([call(*asked)]), [-1])

    def test_each_number_at_the_edges_of_its_range(self):
        # What is right is set so low, or the times so high, that nothing else is due.
        for call, asked in [
                (unlike, [0, 1, 0, 1]), (unlike, [60, 60, 60, 60]), (unlike, [0, 60, 0, 1]), (unlike, [1, 1, 60, 60]),
                (shares, [0, 1, 0, 1]), (shares, [60, 60, 60, 60]), (shares, [0, 60, 0, 1]), (shares, [1, 1, 60, 60]),
                (alike, [0, 1, 1, 0, 1]), (alike, [60, 60, 60, 1000, 1000]), (alike, [1, 1, 60, 1000, 1]),
                (least, [0, 1, 0, 1, 0, 1]), (least, [60, 60, 60, 60, 1000, 1000]), (least, [0, 60, 1, 1, 0, 1000]),
                (guess, [1, 0, 1]), (guess, [60, 60, 20]), (guess, [60, 0, 1]), (guess, [1, 1, 20]),
                (beyond, [1, 1, 0, 1]), (beyond, [60, 20, 1000, 1000]), (beyond, [60, 1, 0, 1000])]:
            with self.subTest(call=call.__name__, asked=asked):
                self.assertEqual(last_answer([call(*asked)])[0], 0)

    def test_more_right_than_there_are(self):
        for call in [unlike, shares]:
            for x, n, y, m in [(5, 4, 1, 4), (1, 4, 5, 4), (5, 4, 5, 4), (2, 1, 0, 60), (0, 60, 2, 1), (60, 59, 0, 1),
                               (0, 1, 60, 59), (60, 1, 60, 1)]:
                with self.subTest(call=call.__name__, x=x, n=n, y=y, m=m):
                    self.assertEqual(last_answer([call(x, n, y, m)]), [-4])
        for x, n, m in [(5, 4, 4), (5, 4, 60), (2, 1, 1), (60, 59, 60)]:
            self.assertEqual(last_answer([alike(x, n, m, 1, 7)]), [-4])
        for n, x in [(4, 5), (1, 2), (59, 60), (1, 60)]:
            for k in [1, 3, 20]:
                self.assertEqual(last_answer([guess(n, x, k)]), [-4])

    def test_just_all_right(self):
        for n in [1, 4, 59, 60]:
            calls = [unlike(n, n, 0, 5), unlike(0, 5, n, n), shares(n, n, 0, 5), shares(0, 5, n, n),
                     alike(n, n, 5, 1, 7), guess(n, n, 3)]
            self.assertEqual([told[0] for told in answered(calls)], [0] * len(calls))

    def test_scores_above_1(self):
        for a, b, c, d, told in [(4, 4, 4, 4, 0), (5, 4, 4, 4, -4), (4, 4, 5, 4, -4), (5, 4, 5, 4, -4),
                                 (2, 1, 0, 1, -4), (0, 1, 60, 59, -4), (60, 60, 60, 60, 0), (60, 1, 1, 60, -4)]:
            for e, f in [(0, 1), (1, 7), (1000, 1)]:
                with self.subTest(a=a, b=b, c=c, d=d, e=e, f=f):
                    self.assertEqual(last_answer([least(a, b, c, d, e, f)])[0], told)

    def test_the_refusal_nearest_to_0(self):
        for call in [unlike(61, 60, 0, 1), unlike(5, 4, 61, 60), unlike(5, 4, 0, 61), unlike(5, 0, 0, 1),
                     unlike(-1, 4, 5, 4), unlike(5, 4, -1, 4), unlike(5, 4, 1, 0), shares(61, 61, 61, 61),
                     shares(5, 4, 0, 0), shares(2, 0, 3, 2), shares(0, FAR, 5, 4), alike(5, 4, 0, 1, 7),
                     alike(5, 4, 61, 1, 7), alike(5, 4, 4, -1, 7), alike(5, 4, 4, 1001, 7), alike(5, 4, 4, 1, 0),
                     alike(5, 4, 4, 1, 1001), alike(1, 0, 4, 1, 7), alike(61, 60, 4, 1, 7), least(5, 4, 1, 0, 1, 7),
                     least(5, 4, 61, 60, 1, 7), least(1, 0, 5, 4, 1, 7), least(5, 4, 5, 4, -1, 7),
                     least(5, 4, 5, 4, 1001, 7), least(5, 4, 5, 4, 1, 0), least(5, 4, 5, 4, 1, 1001),
                     least(5, 4, -1, 4, 1, 7), guess(4, 5, 0), guess(4, 5, 21), guess(0, 1, 3), guess(60, 61, 3),
                     guess(0, -1, FAR), beyond(0, 0, -1, 0)]:
            with self.subTest(call=call):
                self.assertEqual(last_answer([call]), [-1])

    def test_nothing_has_changed(self):
        before = [word([1, 2]), word([2]), answer(0, [1, 1]), answer(1, [2])]
        for refused, number in [(unlike(61, 1, 0, 1), -1), (unlike(2, 1, 0, 1), -4), (shares(0, 1, 0, 0), -1),
                                (shares(0, 1, 2, 1), -4), (alike(0, 1, 1, 1, 0), -1), (alike(2, 1, 1, 1, 1), -4),
                                (least(0, 0, 0, 1, 1, 1), -1), (least(2, 1, 0, 1, 1, 1), -4), (guess(1, 0, 21), -1),
                                (guess(1, 2, 3), -4), (beyond(61, 1, 1, 1), -1)]:
            with self.subTest(refused=refused):
                told, behind, without = watched(before, refused)
                self.assertEqual(told, [number])
                self.assertEqual(behind, without)


class WordsDoNotMatter(unittest.TestCase):
    def test_the_same_with_and_without_words(self):
        calls = [call(*numbers) for call, numbers, ranges in CALLS]
        before = [word([1, 2]), word([2]), answer(0, [1, 1]), answer(1, [2])]
        self.assertEqual(answered(before + calls)[len(before):], answered(calls))

    def test_an_answered_call_changes_nothing_either(self):
        before = [word([1, 2]), word([2]), answer(0, [1, 1]), answer(1, [2])]
        for call, numbers, ranges in CALLS:
            with self.subTest(call=call.__name__):
                told, behind, without = watched(before, call(*numbers))
                self.assertEqual(told[0], 0)
                self.assertEqual(behind, without)


if __name__ == "__main__":
    unittest.main()
