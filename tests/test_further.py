"""Calls 17 to 20: told, exchange, ofWord, sizes."""

import unittest
from itertools import product

from tests.helper import FAR, all_partings, answer, answered, drop, exchange, forget, last_answer, of_word
from tests.helper import plainly_uneven, sizes, some_words, told, uneven, watched, word, words_told

FOUR = words_told([[1, 2], [1], [2], [3]])
TWO = words_told([[3, 1, 3], [7]])
TRIED = TWO + [answer(0, [3, 1, 3]), answer(0, [3, 3, -1]), answer(1, [-1]), answer(0, [-1, 1, 3])]


class Told(unittest.TestCase):
    def test_no_words(self):
        self.assertEqual(last_answer([told()]), [0])
        self.assertEqual(last_answer([word([1]), drop(), told()]), [0])

    def test_each_word_behind_its_count(self):
        self.assertEqual(last_answer(words_told([[39, 0, 0], [5], [1, 2, 3, 4, 5, 6]]) + [told()]),
                         [0, 3, 39, 0, 0, 1, 5, 6, 1, 2, 3, 4, 5, 6])

    def test_after_a_drop_and_a_refused_word(self):
        found = answered(FOUR + [drop(), told(), word([40]), told(), word([2, 2]), told()])[4:]
        self.assertEqual(found, [[0, 3], [0, 2, 1, 2, 1, 1, 1, 2], [-1], [0, 2, 1, 2, 1, 1, 1, 2],
                                 [0, 3], [0, 2, 1, 2, 1, 1, 1, 2, 2, 2, 2]])

    def test_trials_do_not_matter(self):
        self.assertEqual(last_answer(TRIED + [told()]), [0, 3, 3, 1, 3, 1, 7])

    def test_ten_words(self):
        words = some_words(17, 10, 39, 6)
        expected = [0]
        for row in words:
            expected += [len(row)] + row
        self.assertEqual(last_answer(words_told(words) + [told()]), expected)


class Exchange(unittest.TestCase):
    def test_words_of_two_lists(self):
        # 0 1 0 1 is as uneven as 5, 0 1 1 0 as 1.
        for i, j, uneven_by, row in [(1, 2, 5, [0, 1, 0, 1]), (2, 1, 5, [0, 1, 0, 1]), (1, 3, 1, [0, 1, 1, 0]),
                                     (3, 1, 1, [0, 1, 1, 0]), (0, 2, 1, [1, 0, 0, 1]), (0, 3, 5, [1, 0, 1, 0])]:
            with self.subTest(i=i, j=j):
                self.assertEqual(last_answer(FOUR + [exchange(2, i, j, [0, 0, 1, 1])]), [0, uneven_by] + row)

    def test_a_word_with_itself(self):
        for i in range(4):
            self.assertEqual(last_answer(FOUR + [exchange(2, i, i, [0, 0, 1, 1])]), [0, 5, 0, 0, 1, 1])

    def test_two_words_of_one_list(self):
        found = answered(FOUR + [exchange(2, 0, 1, [0, 0, 1, 1]), exchange(2, 3, 2, [0, 0, 1, 1])])[4:]
        self.assertEqual(found, [[0, 5, 0, 0, 1, 1]] * 2)

    def test_four_lists(self):
        found = last_answer(words_told([[0], [0], [1], [39]]) + [exchange(4, 0, 3, [3, 2, 1, 0])])
        self.assertEqual(found, [0, 10, 0, 2, 1, 3])

    def test_nothing_is_kept(self):
        calls = FOUR + [exchange(2, 1, 3, [0, 0, 1, 1]), exchange(2, 1, 3, [0, 0, 1, 1]), uneven(2, [0, 0, 1, 1])]
        self.assertEqual(answered(calls)[4:], [[0, 1, 0, 1, 1, 0], [0, 1, 0, 1, 1, 0], [0, 5]])

    def test_against_a_plain_count(self):
        for how_many, k in [(2, 2), (3, 3), (4, 2), (4, 4), (6, 3), (8, 4), (9, 3), (10, 2)]:
            words = some_words(how_many, how_many, 4, 4)
            rows = all_partings(how_many, k)
            row = list(rows[len(rows) // 3])
            for i, j in product(range(how_many), repeat=2):
                after = list(row)
                after[i] = row[j]
                after[j] = row[i]
                with self.subTest(how_many=how_many, k=k, i=i, j=j):
                    found = last_answer(words_told(words) + [exchange(k, i, j, row)])
                    self.assertEqual(found, [0, plainly_uneven(words, k, after)] + after)


class ExchangeRefused(unittest.TestCase):
    def check(self, words, k, i, j, row, number):
        with self.subTest(words=len(words), k=k, i=i, j=j, row=row):
            self.assertEqual(last_answer(words + [exchange(k, i, j, row)]), [number])

    def test_range_of_k(self):
        for k in [-FAR, -1, 0, 1, 5, FAR]:
            self.check(FOUR, k, 0, 1, [0, 0, 1, 1], -1)

    def test_k_at_its_edges(self):
        found = answered(FOUR + [exchange(2, 0, 0, [0, 1, 1, 0]), exchange(4, 0, 0, [0, 1, 2, 3])])[4:]
        self.assertEqual([these[0] for these in found], [0, 0])

    def test_range_of_i_and_j(self):
        for number in [-FAR, -1, 10, 11, FAR]:
            self.check(FOUR, 2, number, 0, [0, 0, 1, 1], -1)
            self.check(FOUR, 2, 0, number, [0, 0, 1, 1], -1)
            self.check(FOUR, 2, number, number, [0, 0, 1, 1], -1)

    def test_a_word_that_is_not_there(self):
        for number in [4, 5, 9]:
            self.check(FOUR, 2, number, 0, [0, 0, 1, 1], -3)
            self.check(FOUR, 2, 0, number, [0, 0, 1, 1], -3)
            self.check(FOUR, 2, number, number, [0, 0, 1, 1], -3)
        self.check(FOUR + [drop(), drop()], 2, 2, 0, [0, 1], -3)

    def test_the_tenth_word(self):
        row = [0, 1] * 5
        after = [1, 1] + [0, 1] * 3 + [0, 0]
        self.assertEqual(last_answer(words_told([[1]] * 10) + [exchange(2, 0, 9, row)]), [0, 0] + after)
        self.assertEqual(last_answer(words_told([[1]] * 10) + [exchange(2, 9, 0, row)]), [0, 0] + after)

    def test_k_that_does_not_divide(self):
        self.check(FOUR, 3, 0, 1, [0, 1, 2, 0], -6)
        for k in [2, 4]:
            self.check(FOUR[:3], k, 0, 1, [0, 1, 0], -6)

    def test_lists_that_are_no_partings(self):
        for row in [[], [0, 1], [0, 0, 0, 1], [0, 1, 1, 2], [2, 2, 3, 3], [0, 0, 1, 1, 0], [0, 0, 1, 1, 0, 1],
                    [0, 1] * 5]:
            self.check(FOUR, 2, 0, 1, row, -7)

    def test_range_and_length_of_a_parting(self):
        for number in [-FAR, -1, 4, FAR]:
            for place in range(4):
                row = [0, 0, 1, 1]
                row[place] = number
                self.check(FOUR, 2, 0, 1, row, -1)
        for length in [11, 12, 20]:
            self.check(words_told([[1]] * 10), 2, 0, 1, ([0, 1] * 10)[:length], -1)

    def test_the_refusal_nearest_to_0(self):
        for words, k, i, j, row, number in [
                ([], 2, 0, 0, [], -3), ([], 2, 0, 0, [4], -1), ([], 1, 0, 0, [], -1), ([], 2, 10, 0, [], -1),
                ([], 2, 0, 0, [0] * 11, -1), (FOUR[:3], 2, 3, 0, [0], -3), (FOUR[:3], 2, 0, 3, [0, 1, 0], -3),
                (FOUR[:3], 2, 0, 10, [0], -1), (FOUR[:3], 2, 0, 1, [0], -6), (FOUR[:3], 2, 0, 1, [0, 1, 4], -1),
                (FOUR[:3], 2, 9, 9, [0, 1, -1], -1), (FOUR[:3], 5, 9, 9, [0, 1, 2], -1),
                (FOUR, 2, 4, 0, [0, 0, 0, 1], -3), (FOUR, 2, 0, -1, [0, 0, 0, 1], -1),
                (FOUR, 3, 0, 1, [0, 0, 0, 1], -6), (FOUR, 2, 4, 10, [0, 0, 1, 1], -1),
                (FOUR, 2, 10, 4, [0, 0, 1, 1], -1), (FOUR, 3, 4, 0, [0, 0, 1, 1], -3)]:
            self.check(words, k, i, j, row, number)

    def test_nothing_has_changed(self):
        for refused, number in [(exchange(1, 0, 1, [0, 0, 1, 1]), -1), (exchange(2, 10, 1, [0, 0, 1, 1]), -1),
                                (exchange(2, 0, 1, [0] * 20), -1), (exchange(2, 0, 4, [0, 0, 1, 1]), -3),
                                (exchange(3, 0, 1, [0, 0, 1, 1]), -6), (exchange(2, 0, 1, [0, 0, 0, 1]), -7)]:
            with self.subTest(refused=refused):
                found, behind, without = watched(FOUR + [answer(3, [3])], refused)
                self.assertEqual(found, [number])
                self.assertEqual(behind, without)


class OfWord(unittest.TestCase):
    def test_by_hand(self):
        # Of word 0: all of 3 1 3 right, then the first sound alone, then the last two.
        self.assertEqual(answered(TRIED + [of_word(0), of_word(1)])[6:], [[0, 3, 1, 6], [0, 1, 0, 0]])

    def test_no_trials(self):
        self.assertEqual(answered(TWO + [of_word(0), of_word(1)])[2:], [[0, 0, 0, 0]] * 2)

    def test_after_forget_and_drop(self):
        found = answered(TRIED + [forget(), of_word(0), forget(), of_word(1), drop(), of_word(1), of_word(0),
                                  word([1]), of_word(1), answer(1, [1]), of_word(1)])[6:]
        self.assertEqual(found, [[0, 3], [0, 2, 1, 4], [0, 2], [0, 0, 0, 0], [0, 1], [-3], [0, 2, 1, 4],
                                 [0, 1], [0, 0, 0, 0], [0, 1, 1], [0, 1, 1, 1]])

    def test_refused_trials_do_not_count(self):
        self.assertEqual(last_answer(TWO + [answer(1, [7, 7]), answer(1, [40]), of_word(1)]), [0, 0, 0, 0])

    def test_two_words_that_are_the_same_have_their_own_trials(self):
        calls = [word([5]), word([5]), answer(1, [5]), answer(1, [4]), of_word(0), of_word(1)]
        self.assertEqual(answered(calls)[4:], [[0, 0, 0, 0], [0, 2, 1, 1]])

    def test_range_of_w(self):
        for w, number in [(-FAR, -1), (-1, -1), (2, -3), (9, -3), (10, -1), (FAR, -1)]:
            with self.subTest(w=w):
                self.assertEqual(last_answer(TWO + [of_word(w)]), [number])
        self.assertEqual(last_answer([of_word(0)]), [-3])
        self.assertEqual(last_answer([of_word(10)]), [-1])

    def test_the_tenth_word(self):
        self.assertEqual(last_answer(words_told([[1]] * 9) + [of_word(9)]), [-3])
        self.assertEqual(last_answer(words_told([[1]] * 10) + [answer(9, [1]), of_word(9)]), [0, 1, 1, 1])

    def test_sixty_trials(self):
        calls = words_told([[1, 2], [2]]) + [answer(0, [1, 3]), answer(1, [2])] * 30
        self.assertEqual(answered(calls + [of_word(0), of_word(1)])[62:], [[0, 30, 0, 30], [0, 30, 30, 30]])

    def test_nothing_has_changed(self):
        for refused, number in [(of_word(-1), -1), (of_word(10), -1), (of_word(2), -3)]:
            found, behind, without = watched(TRIED, refused)
            self.assertEqual(found, [number])
            self.assertEqual(behind, without)


class Sizes(unittest.TestCase):
    def test_nothing_there(self):
        self.assertEqual(last_answer([sizes()]), [0, 0, 0, 0, 0])

    def test_by_hand(self):
        self.assertEqual(last_answer(TRIED + [sizes()]), [0, 2, 4, 3, 4])
        self.assertEqual(last_answer(FOUR + [sizes()]), [0, 4, 5, 3, 0])
        self.assertEqual(last_answer(words_told([[0, 0, 39], [39]]) + [sizes()]), [0, 2, 4, 2, 0])

    def test_sounds_that_were_only_heard_do_not_count(self):
        self.assertEqual(last_answer([word([1]), answer(0, [9]), sizes()]), [0, 1, 1, 1, 1])

    def test_after_drop_and_forget(self):
        found = answered(TRIED + [forget(), sizes(), forget(), sizes(), drop(), sizes(), drop(), forget(), forget(),
                                  drop(), sizes()])[6:]
        self.assertEqual(found, [[0, 3], [0, 2, 4, 3, 3], [0, 2], [0, 2, 4, 3, 2], [0, 1], [0, 1, 3, 2, 2], [-5],
                                 [0, 1], [0, 0], [0, 0], [0, 0, 0, 0, 0]])

    def test_the_most(self):
        words = [[(number * 6 + place) % 40 for place in range(6)] for number in range(10)]
        calls = words_told(words) + [answer(9, words[9])] * 60 + [word([1]), answer(0, words[0]), sizes()]
        self.assertEqual(last_answer(calls), [0, 10, 60, 40, 60])


if __name__ == "__main__":
    unittest.main()
