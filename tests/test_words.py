"""Calls 0, 1 and 6: word, drop, sounds."""

import unittest

from tests.helper import FAR, answer, answered, drop, forget, last_answer, sounds, watched, word, words_told


class Word(unittest.TestCase):
    def test_words_are_numbered_from_0(self):
        self.assertEqual(answered([word([5]), word([5]), word([1, 2, 3])]), [[0, 0], [0, 1], [0, 2]])

    def test_lengths(self):
        for length, told in [(0, [-1]), (1, [0, 0]), (6, [0, 0]), (7, [-1]), (20, [-1])]:
            with self.subTest(length=length):
                self.assertEqual(last_answer([word([3] * length)]), told)

    def test_range_of_a_sound(self):
        for sound, told in [(-FAR, [-1]), (-1, [-1]), (0, [0, 0]), (39, [0, 0]), (40, [-1]), (FAR, [-1])]:
            for place in range(3):
                with self.subTest(sound=sound, place=place):
                    row = [7, 7, 7]
                    row[place] = sound
                    self.assertEqual(last_answer([word(row)]), told)

    def test_ten_words_and_one_more(self):
        found = answered([word([number]) for number in range(11)])
        self.assertEqual(found, [[0, number] for number in range(10)] + [[-8]])

    def test_out_of_range_comes_ahead_of_no_more_room(self):
        full = words_told([[1]] * 10)
        for row in [[], [1] * 7, [40], [-1], [FAR]]:
            with self.subTest(row=row):
                self.assertEqual(last_answer(full + [word(row)]), [-1])

    def test_a_number_is_given_again_after_a_drop(self):
        self.assertEqual(answered([word([1]), word([2]), drop(), word([3])])[2:], [[0, 1], [0, 1]])

    def test_room_again_after_a_drop(self):
        full = words_told([[1]] * 10)
        self.assertEqual(answered(full + [word([2]), drop(), word([2]), word([2])])[10:],
                         [[-8], [0, 9], [0, 9], [-8]])


class Drop(unittest.TestCase):
    def test_no_words(self):
        self.assertEqual(last_answer([drop()]), [-2])

    def test_the_last_word_goes(self):
        found = answered([word([1]), word([2]), drop(), sounds(), drop(), sounds(), drop()])
        self.assertEqual(found[2:], [[0, 1], [0, 1, 1], [0, 0], [0], [-2]])

    def test_a_tried_last_word_stays(self):
        found = answered([word([1]), word([2]), answer(1, [2]), drop(), sounds()])
        self.assertEqual(found[3:], [[-5], [0, 1, 1, 2, 1]])

    def test_a_word_tried_in_the_first_of_several_trials_stays(self):
        self.assertEqual(last_answer([word([1]), word([2]), answer(1, [2]), answer(0, [1]), drop()]), [-5])

    def test_another_tried_word_does_not_matter(self):
        found = answered([word([1]), word([2]), answer(0, [1]), drop(), drop()])
        self.assertEqual(found[3:], [[0, 1], [-5]])

    def test_a_forgotten_trial_does_not_matter(self):
        self.assertEqual(answered([word([1]), answer(0, [1]), answer(0, [-1]), forget(), drop(), forget(), drop()])[3:],
                         [[0, 1], [-5], [0, 0], [0, 0]])


class Sounds(unittest.TestCase):
    def test_none(self):
        self.assertEqual(last_answer([sounds()]), [0])

    def test_rising_and_counted_over_all_words(self):
        told = last_answer([word([39, 0, 12]), word([12, 12]), word([3, 0]), sounds()])
        self.assertEqual(told, [0, 0, 2, 3, 1, 12, 3, 39, 1])

    def test_trials_do_not_count(self):
        self.assertEqual(last_answer([word([4]), answer(0, [9]), sounds()]), [0, 4, 1])


class RefusedChangesNothing(unittest.TestCase):
    def check(self, before, refused, number):
        told, behind, without = watched(before, refused)
        self.assertEqual(told, [number])
        self.assertEqual(behind, without)

    def test_word_and_drop(self):
        full = words_told([[number, 3] for number in range(10)])
        self.check(full[:2], word([]), -1)
        self.check(full[:2], word([1, 2, 40]), -1)
        self.check(full[:2], word([1] * 7), -1)
        self.check(full, word([8]), -8)
        self.check([], drop(), -2)
        self.check(full[:2] + [answer(1, [1, 4])], drop(), -5)


if __name__ == "__main__":
    unittest.main()
