"""Mending the lowest bits of wrong words, where whole words cannot be mended."""

from anyplaces.bestparts import lost_parts
from anyplaces.demands import need_code, need_words
from anyplaces.nearest import nearest_codeword
from anyplaces.ordering import how_many_items, ordered
from anyplaces.plans import Plan
from anyplaces.trees import branch_of


def mendable_bits(width, places, count):
    """Returns the list of how many words may be wrong so that their lowest 1, 2 and so on bits can be mended."""
    need_code(width, places, count)
    numbers = ordered(places)[1]
    many_at = [how_many_items(bits, numbers, count) for bits in range(1, width + 1)]
    lost = lost_parts(branch_of(places), sorted(set(many_at)))
    return [len(places) if lost[many] is None else (len(lost[many]) - 1) // 2 for many in many_at]


def mended_bits(width, places, count, words):
    """Returns how many lowest bits can be mended, and these bits; None if not even one can."""
    need_code(width, places, count)
    need_words(width, places, words)
    mended_so_far = None
    least = 0
    most = width
    # what can be mended for some bits can be mended for fewer, so halving finds the most
    while least < most:
        bits = (least + most + 1) // 2
        lows = nearest_codeword(Plan(bits, places, count), [word & ((1 << bits) - 1) for word in words])
        if lows is None:
            most = bits - 1
        else:
            least = bits
            mended_so_far = (bits, lows)
    return mended_so_far
