"""Pairs of wishes and holders, and the band that shows that there can't be more."""

from whistleboard.errors import NoProof
from whistleboard.things import is_tuple_within, is_whole, is_whole_within


def paired(wishes):
    """A tuple (pairs, band): a holder or None for each wish, and wishes that show that no fewer can be None."""
    wish_of = {}
    for wish in range(len(wishes)):
        find_holder(wishes, wish_of, wish, {})
    pairs = [None] * len(wishes)
    for holder in wish_of:
        pairs[wish_of[holder]] = holder
    return pairs, band_of(wishes, wish_of, pairs)


def find_holder(wishes, wish_of, wish, tried):
    """Give the wish a holder, where need be by finding others for those that have one; whether it could be."""
    for holder in wishes[wish]:
        if holder not in tried:
            tried[holder] = True
            if holder not in wish_of or find_holder(wishes, wish_of, wish_of[holder], tried):
                wish_of[holder] = wish
                return True
    return False


def band_of(wishes, wish_of, pairs):
    """The wishes without a holder, and all that have a holder that fits one of the band, rising."""
    band = {}
    waiting = [wish for wish, holder in enumerate(pairs) if holder is None]
    while waiting:
        wish = waiting.pop()
        if wish not in band:
            band[wish] = True
            # Each of these holders has a wish: else one more wish would have been given it.
            waiting.extend([wish_of[holder] for holder in wishes[wish]])
    return sorted(band)


def look_pairs(wishes, thing):
    """NoProof where the thing is no tuple (pairs, band) for the wishes, by its first fault."""
    if not is_paper(thing):
        raise NoProof("paper")
    pairs, band = thing
    if not are_pairs(wishes, pairs):
        raise NoProof("pairs")
    if not is_band(wishes, band):
        raise NoProof("band")
    if pairs.count(None) != len(band) - count_fitting(wishes, band):
        raise NoProof("many")


def is_paper(thing):
    """Whether the thing is a tuple of two lists."""
    if not is_tuple_within(thing, 2, 2):
        return False
    return isinstance(thing[0], list) and isinstance(thing[1], list)


def are_pairs(wishes, pairs):
    """Whether the list has a fitting holder or None for each wish, no holder twice."""
    if len(pairs) != len(wishes):
        return False
    seen = {}
    for wish, holder in zip(wishes, pairs):
        if holder is not None:
            if not is_whole(holder) or holder not in wish or holder in seen:
                return False
            seen[holder] = True
    return True


def is_band(wishes, band):
    """Whether the list has places of wishes only, rising."""
    least = 0
    for wish in band:
        if not is_whole_within(wish, least, len(wishes) - 1):
            return False
        least = wish + 1
    return True


def count_fitting(wishes, band):
    """How many holders fit any wish of the band."""
    return len({holder for wish in band for holder in wishes[wish]})
