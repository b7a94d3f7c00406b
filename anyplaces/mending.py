"""Mending wrong words, also if others are lost."""

from anyplaces.demands import need_count, need_known, need_part, need_places, need_width, need_words
from anyplaces.distance import distance_of
from anyplaces.errors import InvalidNumber, InvalidPlaces
from anyplaces.nearest import are_neighbours, blocks_of, codeword_by, how_many_unlike, nearest_codeword
from anyplaces.plans import Plan, plan_of, read_off
from anyplaces.reading import Reading, words_from
from anyplaces.telling import tells_all
from anyplaces.values import are_words_at


def mendable_of(plan):
    """Returns how many words of a code may be wrong, so that the codeword is still the only near one."""
    least = distance_of(plan)
    return len(plan.code_places) if least is None else (least - 1) // 2


def mendable(width, places, count):
    """Returns how many words may be wrong, wherever, so that the codeword is still the only near one."""
    return mendable_of(plan_of(width, places, count))


def mended(width, places, count, words):
    """Returns the codeword that words are near to, None if there is none."""
    plan = plan_of(width, places, count)
    need_words(width, places, words)
    return nearest_codeword(plan, words)


def wrong_at(width, places, count, words):
    """Returns the list of the places at which words are unlike the codeword that they are near to, or None."""
    plan = plan_of(width, places, count)
    need_words(width, places, words)
    found = nearest_codeword(plan, words)
    if found is None:
        return None
    return [place for place, word, right in zip(places, words, found) if word != right]


def is_mended(width, places, count, words, value):
    """Returns whether a value is a codeword that words are near to."""
    plan = plan_of(width, places, count)
    need_words(width, places, words)
    if not are_words_at(width, places, value) or read_off(plan, value)[0] is None:
        return False
    least = distance_of(plan)
    return least is None or 2 * how_many_unlike(words, value) < least


def plan_of_neighbours(width, places, count, words):
    """Returns the plan of a code of neighbours with more than one codeword; refuses all else."""
    need_width(width)
    need_places(width, places)
    if not are_neighbours(places):
        raise InvalidPlaces(places)
    need_count(count)
    if count == 0:
        raise InvalidNumber(count)
    need_words(width, places, words)
    return Plan(width, places, count)


def counts_of_blocks(plan, words):
    """Returns for each block how unlike the words are to the codeword that has them there, None if none has."""
    found = [codeword_by(plan, block, words) for block in blocks_of(plan)]
    return [None if right is None else how_many_unlike(right, words) for right in found]


def block_counts(width, places, count, words):
    """Returns for each block at how many places the codeword with its words is unlike the words, or None."""
    plan = plan_of_neighbours(width, places, count, words)
    return counts_of_blocks(plan, words)


def clean_block(width, places, count, words):
    """Returns the number of the first block that tells the codeword that words are near to, or None."""
    plan = plan_of_neighbours(width, places, count, words)
    least = distance_of(plan)
    for number, many in enumerate(counts_of_blocks(plan, words)):
        if many is not None and 2 * many < least:
            return number
    return None


def mendable_left(width, places, count, left):
    """Returns how many of the words that are left may be wrong, None if these places are no telling part."""
    plan = plan_of(width, places, count)
    need_part(places, left)
    if not tells_all(plan, left):
        return None
    return mendable_of(Plan(width, left, count)) if left else 0


def mended_known(width, places, count, known):
    """Returns the codeword that known words are near to, None if there is none."""
    plan = plan_of(width, places, count)
    need_known(width, places, known)
    left = [place for place, _ in known]
    if plan.many == 0:
        return [0] * len(places)
    if not tells_all(plan, left):
        return None
    found = nearest_codeword(Plan(width, left, count), [word for _, word in known])
    if found is None:
        return None
    return words_from(Reading(width, count, dict(zip(left, found))), places)
