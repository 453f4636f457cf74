"""Partings of words into lists: how uneven they are, the bound, and the told one."""

from wordsheard.limits import LAST_SOUND


def sound_counts(words):
    """How often each sound, from 0 to the last one, stands in all the words."""
    counts = [0] * (LAST_SOUND + 1)
    for sounds in words:
        for sound in sounds:
            counts[sound] += 1
    return counts


def is_parting(parting, k, how_many):
    """Whether so many words are parted into k lists of as many words each."""
    if len(parting) != how_many:
        return False
    # With the length right, k lists of how_many / k words leave no room for a list's number of k or more.
    return all([parting.count(place) * k == how_many for place in range(k)])


def squares_of_differences(counts):
    """The squares of the differences of each two counts, added up."""
    total = 0
    for place, one in enumerate(counts):
        for other in counts[:place]:
            total += (one - other) * (one - other)
    return total


def words_in_list(words, parting, place):
    """The words that the parting has in one list."""
    return [sounds for sounds, where in zip(words, parting) if where == place]


def how_uneven(words, k, parting):
    """How uneven the parting is, over all sounds."""
    counts = [sound_counts(words_in_list(words, parting, place)) for place in range(k)]
    total = 0
    for sound in range(LAST_SOUND + 1):
        total += squares_of_differences([row[sound] for row in counts])
    return total


def bound_of(words, k):
    """The bound that no parting into k lists is less uneven than."""
    remainders = [often % k for often in sound_counts(words)]
    return sum([remainder * (k - remainder) for remainder in remainders])


def meetings(one, other):
    """How many pairs of the same sound there are with one in each of the two words."""
    return sum([other.count(sound) for sound in one])


def grown(begun, meets, k, size):
    """Each begun parting with the next word in each list that has room for it.

    A begun parting is a tuple: how many meetings its lists have, and the list of each word so far.
    meets tells how many meetings the next word has with each word so far.
    """
    longer = []
    for together, parting in begun:
        # Lists that trade their numbers leave a parting as uneven as it was, and the first of all
        # such partings begins its lists in order: so no list is begun ahead of the one before it.
        tried = min(k, max(parting, default=-1) + 2)
        for place in range(tried):
            if parting.count(place) < size:
                more = sum([often for often, where in zip(meets, parting) if where == place])
                longer.append((together + more, parting + [place]))
    return longer


def told_parting(words, k):
    """Of the least uneven partings into k lists the first, compared number by number.

    With counts c over k lists that are t together, the squares of the differences of each two are
    k times all c * c, less t * t. All c * c together are each word's meetings with itself, and twice those
    of each two words in one list. So the least uneven parting is the one with the fewest meetings of two
    words in one list.
    """
    size = len(words) // k
    begun = [(0, [])]
    for how_many, sounds in enumerate(words):
        meets = [meetings(sounds, earlier) for earlier in words[:how_many]]
        begun = grown(begun, meets, k, size)
    # Tuples are compared by the meetings first, and where these are alike by the partings.
    return min(begun)[1]
