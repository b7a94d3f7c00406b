"""The only codeword that words are near to, found by parts of the places that tell it."""

from itertools import combinations

from anyplaces.bitrows import packed_rows, reduced_rows
from anyplaces.distance import distance_of
from anyplaces.reading import Reading, words_from


def are_neighbours(places):
    """Returns whether places are whole numbers that follow one another."""
    return places[-1] - places[0] == len(places) - 1


def blocks_of(plan):
    """Returns the list of the blocks of neighbours, each of them with as many places as there are items."""
    many = plan.many
    return [plan.code_places[number * many:(number + 1) * many] for number in range(len(plan.code_places) // many)]


def bases_left(plan, most):
    """Returns bases such that, whichever places are lost, as many as told, one of the bases is left."""
    rows = packed_rows(plan)
    ats = list(range(len(plan.code_places)))
    bases = {}
    for lost in combinations(ats, most):
        bases[tuple(reduced_rows(rows, [at for at in ats if at not in lost]))] = True
    return [[plan.code_places[at] for at in base] for base in bases]


def codeword_by(plan, part, words):
    """Returns the codeword that has the words at a telling part, None if no codeword has them there."""
    told = dict(zip(plan.code_places, words))
    reading = Reading(plan.code_width, plan.code_count, {place: told[place] for place in part})
    return None if reading.found is None else words_from(reading, plan.code_places)


def how_many_unlike(words, others):
    """Returns at how many places two lists of words are unlike."""
    return len([word for word, other in zip(words, others) if word != other])


def nearest_codeword(plan, words):
    """Returns the codeword that words are near to, None if there is none."""
    least = distance_of(plan)
    if least is None:
        return [0] * len(plan.code_places)
    parts = blocks_of(plan) if are_neighbours(plan.code_places) else bases_left(plan, (least - 1) // 2)
    for part in parts:
        found = codeword_by(plan, part, words)
        if found is not None and 2 * how_many_unlike(found, words) < least:
            return found
    return None
