"""The ranges and the refusals that the calls share."""

NOTHING_HEARD = -1
LAST_SOUND = 39
MOST_SOUNDS = 6
MOST_WORDS = 10
MOST_TRIALS = 60
FEWEST_LISTS = 2
MOST_LISTS = 4
MOST_TIMES = 60
MOST_CHOICES = 20
MOST_OF_LEVEL = 1000

OUT_OF_RANGE = -1
NONE_THERE = -2
NO_SUCH_WORD = -3
WRONG_COUNT = -4
WORD_WAS_TRIED = -5
NOT_DIVIDED = -6
NOT_A_PARTING = -7
NO_MORE_ROOM = -8


def all_within(numbers, low, high):
    """Whether no number is below low or above high."""
    return all([low <= number <= high for number in numbers])


def is_list_count(k):
    """Whether words may be parted into k lists at all."""
    return FEWEST_LISTS <= k <= MOST_LISTS


def is_word_number(w):
    """Whether w is in the range of words' numbers, be there such a word or not."""
    return 0 <= w < MOST_WORDS


def is_level(e, f):
    """Whether e and f are in range for the fraction that others are held against; it may be above 1."""
    return 0 <= e <= MOST_OF_LEVEL and 1 <= f <= MOST_OF_LEVEL
