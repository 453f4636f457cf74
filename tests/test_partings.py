"""Calls 2 to 5: part, uneven, bound, best; and that no parting is less uneven than the told one or the bound."""

import unittest

from tests.helper import FAR, all_partings, answered, best, bound, drop, last_answer, part
from tests.helper import plain_bound, plainly_uneven, some_words, uneven, watched, word, words_told

FOUR = words_told([[1, 2], [1], [2], [3]])


class ByHand(unittest.TestCase):
    def test_two_lists(self):
        # 0 0 1 1: sound 1 is 2 : 0, sound 2 is 1 : 1, sound 3 is 0 : 1, so 4 + 0 + 1.
        # 0 1 0 1: sound 1 is 1 : 1, sound 2 is 2 : 0, sound 3 is 0 : 1, so 0 + 4 + 1.
        # 0 1 1 0: sound 1 is 1 : 1, sound 2 is 1 : 1, sound 3 is 1 : 0, so 0 + 0 + 1.
        found = answered(FOUR + [uneven(2, [0, 0, 1, 1]), uneven(2, [0, 1, 0, 1]), uneven(2, [0, 1, 1, 0]),
                                 uneven(2, [1, 0, 0, 1]), bound(2), part(2)])[4:]
        self.assertEqual(found, [[0, 5], [0, 5], [0, 1], [0, 1], [0, 1], [0, 1, 0, 1, 1, 0]])

    def test_best_of_two_lists(self):
        found = answered(FOUR + [best(2, [0, 1, 1, 0]), best(2, [1, 0, 0, 1]), best(2, [0, 0, 1, 1])])[4:]
        self.assertEqual(found, [[0, 1, 1], [0, 1, 1], [0, 0, 0]])

    def test_the_bound_is_not_always_met(self):
        # Sound 1 is 2 : 0 in the one way there is, though two of it could be shared.
        found = answered([word([1, 1]), word([2]), part(2), bound(2), best(2, [0, 1]), best(2, [1, 0])])[2:]
        self.assertEqual(found, [[0, 5, 0, 1], [0, 1], [0, 1, 0], [0, 1, 0]])

    def test_three_lists(self):
        # 0 1 0 2 1 2: each sound is in two of three lists once, so 2 for each. 0 1 0 1 2 2 has 2 + 2 + 8.
        six = words_told([[1], [1], [2], [2], [3], [3]])
        found = answered(six + [part(3), bound(3), uneven(3, [0, 1, 0, 1, 2, 2]), uneven(3, [2, 1, 2, 0, 1, 0]),
                                best(3, [0, 1, 0, 1, 2, 2]), best(3, [2, 1, 2, 0, 1, 0])])[6:]
        self.assertEqual(found, [[0, 6, 0, 1, 0, 2, 1, 2], [0, 6], [0, 12], [0, 6], [0, 0, 0], [0, 1, 1]])

    def test_four_lists(self):
        # Sound 0 is 1 1 0 0, so 4; sounds 1 and 39 are in one list of four, so 3 each.
        found = answered(words_told([[0], [0], [1], [39]]) + [part(4), bound(4), best(4, [3, 2, 1, 0])])[4:]
        self.assertEqual(found, [[0, 10, 0, 1, 2, 3], [0, 10], [0, 1, 1]])

    def test_of_several_just_as_uneven_the_first(self):
        same = words_told([[9]] * 8)
        found = answered(same + [part(2), part(4)])[8:]
        self.assertEqual(found, [[0, 0, 0, 0, 0, 0, 1, 1, 1, 1], [0, 0, 0, 0, 1, 1, 2, 2, 3, 3]])

    def test_bound_with_each_remainder(self):
        # Of four words sounds 1, 2, 3 and 4 stand once, twice, three times, four times.
        four = words_told([[1, 2, 3, 4], [2, 3, 4], [3, 4], [4]])
        self.assertEqual(answered(four + [bound(4), bound(2)])[4:], [[0, 3 + 4 + 3 + 0], [0, 1 + 0 + 1 + 0]])

    def test_a_sound_twice_in_a_word_counts_twice(self):
        found = answered([word([5, 5, 5]), word([5]), uneven(2, [0, 1]), bound(2)])[2:]
        self.assertEqual(found, [[0, 4], [0, 0]])

    def test_words_that_are_dropped_are_not_parted(self):
        found = answered([word([1]), word([1]), word([2]), part(2), drop(), part(2)])
        self.assertEqual([found[3], found[5]], [[-6], [0, 0, 0, 1]])


class AgainstAPlainWalk(unittest.TestCase):
    def check(self, words, k):
        rows = all_partings(len(words), k)
        unevens = [plainly_uneven(words, k, row) for row in rows]
        least = min(unevens)
        lowest = plain_bound(words, k)
        told = list(rows[unevens.index(least)])
        asked = rows[::max(1, len(rows) // 20)][:20]
        calls = words_told(words) + [part(k), bound(k)]
        for row in asked:
            calls += [uneven(k, row), best(k, row)]
        calls.append(best(k, told))
        expected = [[0, least] + told, [0, lowest]]
        for row in asked:
            this = unevens[rows.index(row)]
            expected += [[0, this], [0, int(this == least), int(this == lowest)]]
        expected.append([0, 1, int(least == lowest)])
        self.assertEqual(answered(calls)[len(words):], expected)
        self.assertLessEqual(lowest, least)
        return least == lowest

    def check_many(self, how_many, k, seeds):
        met = []
        for seed in seeds:
            for last_sound, longest in [(1, 3), (4, 3), (12, 6), (39, 6)]:
                with self.subTest(how_many=how_many, k=k, seed=seed, last_sound=last_sound):
                    met.append(self.check(some_words(seed, how_many, last_sound, longest), k))
        return met

    def test_small_ones(self):
        met = []
        for how_many, k in [(2, 2), (3, 3), (4, 2), (4, 4), (6, 2), (6, 3)]:
            met += self.check_many(how_many, k, range(12))
        self.assertIn(True, met)
        self.assertIn(False, met)

    def test_eight_words(self):
        self.check_many(8, 2, range(4))
        self.check_many(8, 4, range(1))

    def test_nine_words(self):
        self.check_many(9, 3, range(2))

    def test_ten_words(self):
        self.check_many(10, 2, range(6))


class Refused(unittest.TestCase):
    def test_range_of_k(self):
        four_alike = words_told([[1]] * 4)
        for k in [-FAR, -1, 0, 1, 5, 12, FAR]:
            for words in [[], four_alike]:
                for call in [part(k), bound(k), uneven(k, [0, 0, 1, 1]), best(k, [0, 0, 1, 1]), uneven(k, [])]:
                    with self.subTest(k=k, words=len(words), call=call):
                        self.assertEqual(last_answer(words + [call]), [-1])

    def test_k_at_its_edges(self):
        found = answered(words_told([[1]] * 4) + [part(2), part(4), bound(2), bound(4)])[4:]
        self.assertEqual(found, [[0, 0, 0, 0, 1, 1], [0, 0, 0, 1, 2, 3], [0, 0], [0, 0]])

    def test_no_words(self):
        for k in [2, 3, 4]:
            for call in [part(k), bound(k), uneven(k, []), best(k, []), uneven(k, [0, 1])]:
                with self.subTest(call=call):
                    self.assertEqual(last_answer([call]), [-6])

    def test_k_that_does_not_divide(self):
        for how_many in range(1, 11):
            row = [0] * how_many
            for k in [2, 3, 4]:
                found = answered(words_told([[1]] * how_many) + [part(k), bound(k), uneven(k, row), best(k, row)])
                with self.subTest(how_many=how_many, k=k):
                    if how_many % k == 0:
                        self.assertEqual([told[0] for told in found[how_many:]], [0, 0, -7, -7])
                    else:
                        self.assertEqual(found[how_many:], [[-6]] * 4)

    def test_lists_that_are_no_partings(self):
        for row in [[], [0, 1], [0, 1, 0], [0, 0, 0, 1], [0, 1, 1, 1], [0, 0, 0, 0], [0, 1, 1, 2], [2, 2, 3, 3],
                    [0, 0, 1, 1, 0], [0, 0, 1, 1, 0, 1], [0, 1, 0, 1, 0, 1, 0, 1, 0, 1]]:
            with self.subTest(row=row):
                self.assertEqual(answered(FOUR + [uneven(2, row), best(2, row)])[4:], [[-7], [-7]])

    def test_no_partings_into_three_and_four(self):
        six = words_told([[1]] * 6)
        for row in [[0, 0, 0, 1, 1, 2], [0, 0, 1, 1, 3, 3], [0, 0, 0, 1, 1, 1]]:
            self.assertEqual(answered(six + [uneven(3, row), best(3, row)])[6:], [[-7], [-7]])
        for row in [[0, 1, 2, 2], [0, 1, 1, 0], [3, 3, 3, 3]]:
            self.assertEqual(answered(FOUR + [uneven(4, row), best(4, row)])[4:], [[-7], [-7]])

    def test_range_of_a_parting(self):
        for number, told in [(-FAR, [-1]), (-1, [-1]), (3, [-7]), (4, [-1]), (FAR, [-1])]:
            for place in range(4):
                row = [0, 0, 1, 1]
                row[place] = number
                with self.subTest(row=row):
                    self.assertEqual(answered(FOUR + [uneven(2, row), best(2, row)])[4:], [told, told])

    def test_length_of_a_parting(self):
        ten = words_told([[1]] * 10)
        row = [0, 1] * 5
        self.assertEqual(answered(ten + [uneven(2, row), best(2, row)])[10:], [[0, 0], [0, 1, 1]])
        for length in [11, 12, 20]:
            row = ([0, 1] * 10)[:length]
            self.assertEqual(answered(ten + [uneven(2, row), best(2, row)])[10:], [[-1], [-1]])

    def test_the_refusal_nearest_to_0(self):
        three = words_told([[1]] * 3)
        for words, k, row, told in [
                ([], 2, [4], [-1]), ([], 5, [0, 1], [-1]), ([], 2, [0] * 11, [-1]), ([], 2, [3], [-6]),
                (three, 2, [0, 1, 4], [-1]), (three, 2, [0], [-6]), (three, 1, [0], [-1]), (three, 3, [0], [-7]),
                (three, 3, [0, 1, -1], [-1]), (three, 2, [0] * 11, [-1]), (three, 2, [0, 1, 2], [-6])]:
            with self.subTest(words=len(words), k=k, row=row):
                found = answered(words + [uneven(k, row), best(k, row)])
                self.assertEqual(found[len(words):], [told, told])

    def test_nothing_has_changed(self):
        for refused in [part(1), part(3), bound(5), bound(3), uneven(2, [0, 0, 0, 1]), uneven(2, [4] * 4),
                        best(3, [0, 0, 1, 1]), best(2, [0] * 20), best(2, [])]:
            with self.subTest(refused=refused):
                told, behind, without = watched(FOUR, refused)
                self.assertEqual(len(told), 1)
                self.assertLess(told[0], 0)
                self.assertEqual(behind, without)


if __name__ == "__main__":
    unittest.main()
