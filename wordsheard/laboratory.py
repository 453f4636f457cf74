"""A line of calls, read one behind another and answered."""

from wordsheard.chancecalls import alike, beyond, guess, least, shares, unlike
from wordsheard.store import Laboratory
from wordsheard.trialcalls import add_trial, confusions, forget_trial, score, score_of_word
from wordsheard.wordcalls import best, bound, count_sounds, drop_word, exchange, part, sizes, tell_word
from wordsheard.wordcalls import told_words, uneven

# By the call's number: how many whole numbers stand behind it.
WHOLE_NUMBERS = (0, 0, 1, 1, 1, 1, 0, 1, 0, 0, 0, 4, 4, 5, 6, 3, 4, 0, 3, 1, 0)

# The calls that have a row behind their whole numbers.
CALLS_WITH_ROW = (0, 3, 5, 7, 18)

LAST_WORD_CALL = 6
LAST_TRIAL_CALL = 10
LAST_CHANCE_CALL = 16


def word_call(lab, call, numbers, row):
    """What one of the calls 0 to 6 answers."""
    if call == 0:
        return tell_word(lab, row)
    if call == 1:
        return drop_word(lab)
    if call == 2:
        return part(lab, numbers[0])
    if call == 3:
        return uneven(lab, numbers[0], row)
    if call == 4:
        return bound(lab, numbers[0])
    if call == 5:
        return best(lab, numbers[0], row)
    return count_sounds(lab)


def trial_call(lab, call, numbers, row):
    """What one of the calls 7 to 10 answers."""
    if call == 7:
        return add_trial(lab, numbers[0], row)
    if call == 8:
        return forget_trial(lab)
    if call == 9:
        return score(lab)
    return confusions(lab)


def chance_call(call, numbers):
    """What one of the calls 11 to 16 answers."""
    if call == 11:
        return unlike(numbers[0], numbers[1], numbers[2], numbers[3])
    if call == 12:
        return shares(numbers[0], numbers[1], numbers[2], numbers[3])
    if call == 13:
        return alike(numbers[0], numbers[1], numbers[2], numbers[3], numbers[4])
    if call == 14:
        return least(numbers[0], numbers[1], numbers[2], numbers[3], numbers[4], numbers[5])
    if call == 15:
        return guess(numbers[0], numbers[1], numbers[2])
    return beyond(numbers[0], numbers[1], numbers[2], numbers[3])


def further_call(lab, call, numbers, row):
    """What one of the calls 17 to 20 answers."""
    if call == 17:
        return told_words(lab)
    if call == 18:
        return exchange(lab, numbers[0], numbers[1], numbers[2], row)
    if call == 19:
        return score_of_word(lab, numbers[0])
    return sizes(lab)


def answer_of(lab, call, numbers, row):
    """What the call answers: 0 and what is told, or a refusal alone."""
    if call <= LAST_WORD_CALL:
        return word_call(lab, call, numbers, row)
    if call <= LAST_TRIAL_CALL:
        return trial_call(lab, call, numbers, row)
    if call <= LAST_CHANCE_CALL:
        return chance_call(call, numbers)
    return further_call(lab, call, numbers, row)


def answers(calls):
    """The answers to all calls, in order, each behind how many numbers it has."""
    lab = Laboratory()
    given = []
    at = 0
    while at < len(calls):
        call = calls[at]
        end = at + 1 + WHOLE_NUMBERS[call]
        numbers = calls[at + 1:end]
        row = []
        if call in CALLS_WITH_ROW:
            begin = end + 1
            end = begin + calls[end]
            row = calls[begin:end]
        told = answer_of(lab, call, numbers, row)
        given.append(len(told))
        given.extend(told)
        at = end
    return given
