"""Parts of the places beside one another: what their words say of one another, and which ones fit known words."""

from anyplaces.demands import need_code, need_count, need_known, need_part
from anyplaces.errors import InvalidNumber, InvalidWords
from anyplaces.plans import Plan, item_bits, plan_of
from anyplaces.reading import Reading, ahead_of, bits_left, fit_with, fitting_reading
from anyplaces.values import are_words_at


def bits_of_part(width, count, part):
    """Returns how many bits the words at a part have."""
    return sum(item_bits(Plan(width, part, count)))


def part_bits(width, places, count, part):
    """Returns how many bits the words at a part have."""
    need_code(width, places, count)
    need_part(places, part)
    return bits_of_part(width, count, part)


def union_of(part, other):
    """Returns the ascending list of the places of two parts."""
    return sorted(set(part) | set(other))


def said_bits(width, places, count, one, other, third):
    """Returns how many bits the words at one part say about those at another one, once those at a third are known."""
    need_code(width, places, count)
    need_part(places, one)
    need_part(places, other)
    need_part(places, third)
    with_one = union_of(one, third)
    with_other = union_of(other, third)
    apart = bits_of_part(width, count, with_one) + bits_of_part(width, count, with_other)
    return apart - bits_of_part(width, count, union_of(with_one, with_other)) - bits_of_part(width, count, third)


def beside_plan(width, count, known, part):
    """Returns the plan of the places of known words and of a part, alone.

    Its codewords are what codewords have there, and those with the known words stand in the order of their words at
    the part: a part's lists of words that fit are these.
    """
    return Plan(width, union_of([place for place, _ in known], part), count)


def how_many_beside(width, places, count, known, part):
    """Returns how many lists of words at a part fit known words."""
    plan = plan_of(width, places, count)
    need_known(width, places, known)
    need_part(places, part)
    reading = fitting_reading(plan, known)
    return 1 << bits_left(beside_plan(width, count, known, part), reading.plan)


def beside_at(width, places, count, known, part, number):
    """Returns the list of words at a part that fits known words and has so many such lists ahead of it."""
    plan = plan_of(width, places, count)
    need_known(width, places, known)
    need_part(places, part)
    need_count(number)
    reading = fitting_reading(plan, known)
    beside = beside_plan(width, count, known, part)
    if number >= 1 << bits_left(beside, reading.plan):
        raise InvalidNumber(number)
    told = dict(zip(beside.code_places, fit_with(beside, known, number)))
    return [told[place] for place in part]


def number_beside(width, places, count, known, part, words):
    """Returns how many lists of words at a part that fit known words are ahead of one, None if this does not fit."""
    plan = plan_of(width, places, count)
    need_known(width, places, known)
    need_part(places, part)
    if not are_words_at(width, part, words):
        raise InvalidWords(words)
    fitting_reading(plan, known)
    told = dict(zip(part, words))
    for place, word in known:
        if told.setdefault(place, word) != word:
            return None
    if Reading(width, count, told).found is None:
        return None
    beside = beside_plan(width, count, known, part)
    return ahead_of(beside, known, [told[place] for place in beside.code_places])
