"""The calls on trials: 7 to 10 and 19.

Each function answers the call's numbers: 0 and what is told, or a refusal alone. What would refuse is
looked for from the refusal nearest to 0 on, and ahead of every change.
"""

from wordsheard.limits import LAST_SOUND, MOST_SOUNDS, MOST_TRIALS, NOTHING_HEARD
from wordsheard.limits import NONE_THERE, NO_MORE_ROOM, NO_SUCH_WORD, OUT_OF_RANGE, WRONG_COUNT
from wordsheard.limits import all_within, is_word_number


def right_sounds(said, heard):
    """How many sounds were heard where they were said."""
    return sum([1 for one, other in zip(said, heard) if one == other])


def trial_refusal(lab, w, heard):
    """The refusal that is due for a trial, or 0."""
    if not is_word_number(w) or len(heard) > MOST_SOUNDS or not all_within(heard, NOTHING_HEARD, LAST_SOUND):
        return OUT_OF_RANGE
    if w >= len(lab.words):
        return NO_SUCH_WORD
    if len(heard) != len(lab.words[w]):
        return WRONG_COUNT
    if len(lab.trials) >= MOST_TRIALS:
        return NO_MORE_ROOM
    return 0


def add_trial(lab, w, heard):
    """Call 7: one more trial."""
    refusal = trial_refusal(lab, w, heard)
    if refusal < 0:
        return [refusal]
    lab.trials.append((w, heard))
    right = right_sounds(lab.words[w], heard)
    return [0, 1 if right == len(heard) else 0, right]


def forget_trial(lab):
    """Call 8: the last trial goes."""
    if len(lab.trials) == 0:
        return [NONE_THERE]
    lab.trials.pop()
    return [0, len(lab.trials)]


def scored(lab, trials):
    """Of these trials: how many there are, words right, sounds right and sounds said."""
    whole_words = 0
    sounds_right = 0
    sounds_said = 0
    for w, heard in trials:
        right = right_sounds(lab.words[w], heard)
        whole_words += 1 if right == len(heard) else 0
        sounds_right += right
        sounds_said += len(heard)
    return [len(trials), whole_words, sounds_right, sounds_said]


def score(lab):
    """Call 9: how many trials, words right, sounds right and sounds said."""
    return [0] + scored(lab, lab.trials)


def place_told(pair):
    """What pairs of a sound said and a sound heard are ordered by: nothing comes behind all sounds."""
    heard = LAST_SOUND + 1 if pair[1] == NOTHING_HEARD else pair[1]
    return (pair[0], heard)


def confusions(lab):
    """Call 10: each sound said with each one heard for it, and how often."""
    tally = {}
    for w, heard in lab.trials:
        for pair in zip(lab.words[w], heard):
            tally[pair] = tally.get(pair, 0) + 1
    told = [0]
    for pair in sorted(tally.keys(), key=place_told):
        told.extend([pair[0], pair[1], tally[pair]])
    return told


def score_of_word(lab, w):
    """Call 19: how many trials of one word, in how many it was right, and sounds right in them."""
    if not is_word_number(w):
        return [OUT_OF_RANGE]
    if w >= len(lab.words):
        return [NO_SUCH_WORD]
    # How many sounds were said isn't told of one word.
    return [0] + scored(lab, [trial for trial in lab.trials if trial[0] == w])[:3]
