"""The calls on words and their partings: 0 to 6, 17, 18 and 20.

Each function answers the call's numbers: 0 and what is told, or a refusal alone. What would refuse is
looked for from the refusal nearest to 0 on, and ahead of every change.
"""

from wordsheard.limits import LAST_SOUND, MOST_LISTS, MOST_SOUNDS, MOST_WORDS
from wordsheard.limits import NONE_THERE, NOT_A_PARTING, NOT_DIVIDED, NO_MORE_ROOM, NO_SUCH_WORD, OUT_OF_RANGE
from wordsheard.limits import WORD_WAS_TRIED, all_within, is_list_count, is_word_number
from wordsheard.partings import bound_of, how_uneven, is_parting, sound_counts, told_parting


def tell_word(lab, sounds):
    """Call 0: one more word."""
    if not 1 <= len(sounds) <= MOST_SOUNDS or not all_within(sounds, 0, LAST_SOUND):
        return [OUT_OF_RANGE]
    if len(lab.words) >= MOST_WORDS:
        return [NO_MORE_ROOM]
    lab.words.append(sounds)
    return [0, len(lab.words) - 1]


def drop_word(lab):
    """Call 1: the last word goes."""
    if len(lab.words) == 0:
        return [NONE_THERE]
    last = len(lab.words) - 1
    if any([trial[0] == last for trial in lab.trials]):
        return [WORD_WAS_TRIED]
    lab.words.pop()
    return [0, len(lab.words)]


def can_be_parted(words, k):
    """Whether there are words, and as many for each of k lists."""
    return len(words) > 0 and len(words) % k == 0


def lists_refusal(words, k):
    """The refusal that is due for k lists, or 0."""
    if not is_list_count(k):
        return OUT_OF_RANGE
    if not can_be_parted(words, k):
        return NOT_DIVIDED
    return 0


def parting_refusal(words, k, parting):
    """The refusal that is due for a parting into k lists, or 0."""
    # The parting's own range stands ahead of what lists_refusal finds: -1 is nearer to 0 than -6.
    if len(parting) > MOST_WORDS or not all_within(parting, 0, MOST_LISTS - 1):
        return OUT_OF_RANGE
    refusal = lists_refusal(words, k)
    if refusal < 0:
        return refusal
    if not is_parting(parting, k, len(words)):
        return NOT_A_PARTING
    return 0


def part(lab, k):
    """Call 2: the told parting, behind how uneven it is."""
    refusal = lists_refusal(lab.words, k)
    if refusal < 0:
        return [refusal]
    told = told_parting(lab.words, k)
    return [0, how_uneven(lab.words, k, told)] + told


def uneven(lab, k, parting):
    """Call 3: how uneven a parting is."""
    refusal = parting_refusal(lab.words, k, parting)
    if refusal < 0:
        return [refusal]
    return [0, how_uneven(lab.words, k, parting)]


def bound(lab, k):
    """Call 4: the bound."""
    refusal = lists_refusal(lab.words, k)
    if refusal < 0:
        return [refusal]
    return [0, bound_of(lab.words, k)]


def best(lab, k, parting):
    """Call 5: whether no parting is less uneven, and whether it's just as uneven as the bound."""
    refusal = parting_refusal(lab.words, k, parting)
    if refusal < 0:
        return [refusal]
    this = how_uneven(lab.words, k, parting)
    least = how_uneven(lab.words, k, told_parting(lab.words, k))
    return [0, 1 if this == least else 0, 1 if this == bound_of(lab.words, k) else 0]


def count_sounds(lab):
    """Call 6: each sound that stands in a word, and how often."""
    told = [0]
    for sound, often in enumerate(sound_counts(lab.words)):
        if often > 0:
            told.extend([sound, often])
    return told


def told_words(lab):
    """Call 17: each word, behind how many sounds it has."""
    told = [0]
    for sounds in lab.words:
        told.append(len(sounds))
        told.extend(sounds)
    return told


def exchange_refusal(words, k, i, j, parting):
    """The refusal that is due for an exchange of words i and j, or 0."""
    refusal = parting_refusal(words, k, parting)
    if refusal == OUT_OF_RANGE or not is_word_number(i) or not is_word_number(j):
        return OUT_OF_RANGE
    # -3 is nearer to 0 than what else a parting may be refused for.
    if max(i, j) >= len(words):
        return NO_SUCH_WORD
    return refusal


def exchange(lab, k, i, j, parting):
    """Call 18: the parting with words i and j in one another's lists, behind how uneven it is then."""
    refusal = exchange_refusal(lab.words, k, i, j, parting)
    if refusal < 0:
        return [refusal]
    exchanged = list(parting)
    exchanged[i] = parting[j]
    exchanged[j] = parting[i]
    return [0, how_uneven(lab.words, k, exchanged)] + exchanged


def sizes(lab):
    """Call 20: how many words, sounds of them, unlike sounds, and trials."""
    counts = sound_counts(lab.words)
    unlike_ones = len([often for often in counts if often > 0])
    return [0, len(lab.words), sum(counts), unlike_ones, len(lab.trials)]
