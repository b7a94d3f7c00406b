"""How many low bits of words are told by the words at other places, and what can stand there."""

from anyplaces.demands import need_code, need_count, need_known, need_part, need_place, need_places
from anyplaces.ordering import ordered
from anyplaces.plans import Plan, plan_of
from anyplaces.reading import fit_with, fitting_reading, possible_at, told_at
from anyplaces.telling import first_gap
from anyplaces.values import WIDEST


def plan_of_asked(width, places, count, asked):
    """Returns the plan of the asked places alone; refuses what is no code, and no such places of it."""
    need_code(width, places, count)
    need_part(places, asked)
    return Plan(width, asked, count)


def told_of(asked_plan, places):
    """Returns the list of how many low bits of the words at places the words at the asked places tell."""
    return [told_at(asked_plan, place) for place in places]


def bits_told(width, places, count, asked, place):
    """Returns how many low bits of the word at a place are told by the words at the asked places."""
    asked_plan = plan_of_asked(width, places, count, asked)
    need_place(places, place)
    return told_at(asked_plan, place)


def told_bits(width, places, count, asked):
    """Returns the list of how many low bits are told, for all places."""
    return told_of(plan_of_asked(width, places, count, asked), places)


def possible(width, places, count, known, place):
    """Returns the least word at a place that fits known words, and how many of its low bits are told."""
    plan = plan_of(width, places, count)
    need_known(width, places, known)
    need_place(places, place)
    return possible_at(fitting_reading(plan, known), place)


def closure(width, places, count, asked):
    """Returns the list of the places whose words are told whole by those at the asked places."""
    asked_plan = plan_of_asked(width, places, count, asked)
    return [place for place in places if told_at(asked_plan, place) == width]


def untold(width, places, count, asked, place):
    """Returns the first codeword that is 0 at the asked places and the least power of 2 at a place, or None."""
    asked_plan = plan_of_asked(width, places, count, asked)
    need_place(places, place)
    bits = told_at(asked_plan, place)
    if bits == width:
        return None
    known = sorted([(other, 0) for other in asked] + [(place, 1 << bits)])
    return fit_with(plan_of(width, places, count), known, 0)


def low_bits(width, places, count, asked):
    """Returns how many of the lowest bits of all words are told by the words at the asked places."""
    return min(told_of(plan_of_asked(width, places, count, asked), places))


def low_by_low(places, count, asked):
    """Returns how many lowest bits of all words are told, at every width, by just so many of the asked words."""
    need_places(WIDEST, places)
    need_count(count)
    need_part(places, asked)
    numbers = ordered(places)[1][:count]
    k = first_gap(numbers, ordered(asked)[1])
    return None if k is None else numbers[k]
