"""Changes of single words: which ones no alarm tells, and which ones make the same alarms at two places."""

from anyplaces.demands import need_place
from anyplaces.errors import InvalidNumber
from anyplaces.plans import Plan, plan_of
from anyplaces.reading import Reading, possible_at, told_at
from anyplaces.values import is_one_of


def bits_by_others(plan, place, left_out):
    """Returns how many low bits of a word are told by the words at all other places that are not left out."""
    others = [other for other in plan.code_places if other != place and other not in left_out]
    return told_at(Plan(plan.code_width, others, plan.code_count), place)


def unseen(width, places, count, place):
    """Returns the least change of the word at a place that leaves all alarms as they are, None if there is none."""
    plan = plan_of(width, places, count)
    need_place(places, place)
    bits = bits_by_others(plan, place, [])
    return None if bits == width else 1 << bits


def are_look_alikes(plan, one, other):
    """Returns whether a seen change at one place makes the alarms of a change at another one."""
    # exactly then does the word at the other place tell bits of the first one that the rest does not tell
    return bits_by_others(plan, one, [other]) < bits_by_others(plan, one, [])


def look_alikes(width, places, count):
    """Returns the list of the pairs of places that are look-alikes."""
    plan = plan_of(width, places, count)
    found = []
    for at, one in enumerate(places):
        for other in places[at + 1:]:
            if are_look_alikes(plan, one, other):
                found.append((one, other))
    return found


def alike_change(width, places, count, one, other):
    """Returns the least seen change at one place with the alarms of one at another, and the least such one, or None."""
    plan = plan_of(width, places, count)
    need_place(places, one)
    if not is_one_of(places, other) or other == one:
        raise InvalidNumber(other)
    if not are_look_alikes(plan, one, other):
        return None
    change = 1 << bits_by_others(plan, one, [other])
    told = {place: 0 for place in places if place != other}
    told[one] = change
    # a codeword has the change at the one place, and what takes the other change back at the other one
    word, bits = possible_at(Reading(width, count, told), other)
    return (change, -word & ((1 << bits) - 1))
