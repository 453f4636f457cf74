"""Calls 7 to 10: answer, forget, score, confusions."""

import unittest

from tests.helper import FAR, answer, answered, confusions, forget, last_answer, score, watched, word, words_told

TWO = words_told([[3, 1, 3], [7]])
TRIED = TWO + [answer(0, [3, 1, 3]), answer(0, [3, 3, -1]), answer(1, [-1])]


class ByHand(unittest.TestCase):
    def test_answers(self):
        self.assertEqual(answered(TRIED)[2:], [[0, 1, 3], [0, 0, 1], [0, 0, 0]])

    def test_a_sound_in_the_wrong_place_is_not_right(self):
        self.assertEqual(last_answer([word([1, 2]), answer(0, [2, 1])]), [0, 0, 0])

    def test_score(self):
        self.assertEqual(last_answer(TRIED + [score()]), [0, 3, 1, 4, 7])
        self.assertEqual(last_answer([score()]), [0, 0, 0, 0, 0])
        self.assertEqual(last_answer(TWO + [score()]), [0, 0, 0, 0, 0])

    def test_confusions(self):
        self.assertEqual(last_answer(TRIED + [confusions()]),
                         [0, 1, 1, 1, 1, 3, 1, 3, 3, 3, 3, -1, 1, 7, -1, 1])
        self.assertEqual(last_answer([confusions()]), [0])
        self.assertEqual(last_answer(TWO + [confusions()]), [0])

    def test_nothing_is_told_last_and_the_rest_rising(self):
        calls = [word([39]), word([0])]
        calls += [answer(w, [heard]) for w in [0, 1] for heard in [-1, 39, 5, 0, -1]]
        self.assertEqual(last_answer(calls + [confusions()]),
                         [0, 0, 0, 1, 0, 5, 1, 0, 39, 1, 0, -1, 2, 39, 0, 1, 39, 5, 1, 39, 39, 1, 39, -1, 2])

    def test_one_sound_in_several_words(self):
        calls = [word([2, 4]), word([4, 2]), answer(0, [4, 4]), answer(1, [4, 4]), confusions(), score()]
        self.assertEqual(answered(calls)[2:], [[0, 0, 1], [0, 0, 1], [0, 2, 4, 2, 4, 4, 2], [0, 2, 0, 2, 4]])

    def test_forget(self):
        found = answered(TRIED + [forget(), score(), forget(), score(), confusions(), forget(), score(), forget()])[5:]
        self.assertEqual(found, [[0, 2], [0, 2, 1, 4, 6], [0, 1], [0, 1, 1, 3, 3], [0, 1, 1, 1, 3, 3, 2],
                                 [0, 0], [0, 0, 0, 0, 0], [-2]])


class Refused(unittest.TestCase):
    def test_range_of_w(self):
        for w, told in [(-FAR, [-1]), (-1, [-1]), (1, [0, 1, 1]), (2, [-3]), (9, [-3]), (10, [-1]), (FAR, [-1])]:
            with self.subTest(w=w):
                self.assertEqual(last_answer(TWO + [answer(w, [7])]), told)

    def test_the_tenth_word(self):
        self.assertEqual(last_answer(words_told([[1]] * 9) + [answer(9, [1])]), [-3])
        self.assertEqual(last_answer(words_told([[1]] * 10) + [answer(9, [1])]), [0, 1, 1])

    def test_range_of_what_was_heard(self):
        for heard, told in [(-FAR, [-1]), (-2, [-1]), (-1, [0, 0, 2]), (0, [0, 0, 2]), (39, [0, 0, 2]),
                            (40, [-1]), (FAR, [-1])]:
            for place in range(3):
                row = [3, 1, 3]
                row[place] = heard
                with self.subTest(row=row):
                    self.assertEqual(last_answer(TWO + [answer(0, row)]), told)

    def test_as_many_answers_as_sounds(self):
        for length, told in [(0, [-4]), (2, [-4]), (3, [0, 0, 0]), (4, [-4]), (6, [-4]), (7, [-1]), (20, [-1])]:
            with self.subTest(length=length):
                self.assertEqual(last_answer(TWO + [answer(0, [5] * length)]), told)
        self.assertEqual(last_answer([word([8] * 6), answer(0, [8] * 6)]), [0, 1, 6])

    def test_sixty_trials_and_one_more(self):
        sixty = [word([1])] + [answer(0, [1])] * 60
        found = answered(sixty + [answer(0, [1]), score(), forget(), answer(0, [2]), answer(0, [1])])
        self.assertEqual(found[1:61], [[0, 1, 1]] * 60)
        self.assertEqual(found[61:], [[-8], [0, 60, 60, 60, 60], [0, 59], [0, 0, 0], [-8]])

    def test_no_trials(self):
        self.assertEqual(last_answer([forget()]), [-2])
        self.assertEqual(last_answer(TWO + [forget()]), [-2])

    def test_the_refusal_nearest_to_0(self):
        sixty = [word([1])] + [answer(0, [1])] * 60
        for calls in [[], TWO, sixty]:
            for w, row, told in [(10, [], [-1]), (-1, [1], [-1]), (9, [40], [-1]), (9, [1] * 7, [-1]), (0, [-2], [-1]),
                                 (9, [], [-3]), (9, [1], [-3])]:
                with self.subTest(calls=len(calls), w=w, row=row):
                    self.assertEqual(last_answer(calls + [answer(w, row)]), told)
        self.assertEqual(last_answer([answer(0, [])]), [-3])
        self.assertEqual(last_answer(sixty + [answer(0, [])]), [-4])
        self.assertEqual(last_answer(sixty + [answer(0, [1, 1])]), [-4])
        self.assertEqual(last_answer(sixty + [answer(1, [1, 1])]), [-3])

    def test_nothing_has_changed(self):
        sixty = [word([1]), word([1])] + [answer(0, [1])] * 60
        for before, refused, told in [(TRIED, answer(10, [1]), -1), (TRIED, answer(0, [3, 1, 40]), -1),
                                      (TRIED, answer(2, [1]), -3), (TRIED, answer(0, [3, 1]), -4),
                                      (sixty, answer(1, [9]), -8), (TWO, forget(), -2)]:
            with self.subTest(refused=refused):
                found, behind, without = watched(before, refused)
                self.assertEqual(found, [told])
                self.assertEqual(behind, without)


if __name__ == "__main__":
    unittest.main()
