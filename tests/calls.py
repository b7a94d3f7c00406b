"""For each function of the interface that is built: its file, its arguments by name, and right ones to call it with."""

from anyplaces.alarms import alike_change, look_alikes, unseen
from anyplaces.alike import are_alike, exchange, first_alike, how_many_alike, parting_level
from anyplaces.bases import (
    all_bases, always_read, base_numbered, cheapest_base, how_many_bases, is_cheapest, put_in_for, splits,
    telling_counts,
)
from anyplaces.bits import bits_told, closure, low_bits, low_by_low, possible, told_bits, untold
from anyplaces.checks import alarm, alarms, check_of, check_parts, how_many_checks, is_check, triangle
from anyplaces.codes import codeword, coefficients_of, is_codeword, items_of, misfit
from anyplaces.distance import (
    by_widths, distance, how_many_light, hurting, is_lightest, least_lost, lightest, neighbour_distance,
)
from anyplaces.fitting import fit_numbered, fits, how_many_ahead, how_many_fit
from anyplaces.grids import (
    filled_grid, grid_distance, grid_items, grid_size, grid_word, how_many_both, is_grid_word, light_grid,
    meeting_tells, numbers_of,
)
from anyplaces.helpers import fewest_helpers, follows, helpers, is_helpers, reach, steps_needed
from anyplaces.joined import beside_at, how_many_beside, number_beside, part_bits, said_bits
from anyplaces.kinds import (
    is_known, is_places, is_width, is_word, is_words, parting_places, twos_in, word_at, words_at,
)
from anyplaces.lines import line_of, of_line
from anyplaces.lowbits import mendable_bits, mended_bits
from anyplaces.mending import (
    block_counts, clean_block, is_mended, mendable, mendable_left, mended, mended_known, wrong_at,
)
from anyplaces.orders import good_order, how_many_even, is_good_order, least_twos, places_with, uneven_branch
from anyplaces.sizes import (
    codeword_at, codeword_number, full_count, how_many_codewords, item_count, item_widths, width_for,
)
from anyplaces.store import Store, is_deed
from anyplaces.telling import bit_rows, first_base, hidden, is_base, is_telling
from anyplaces.within import first_above, how_many_above, how_many_stretched, least_count, stretched_coefficients

FILES = {
    "anyplaces.kinds": [
        is_known, is_places, is_width, is_word, is_words, parting_places, twos_in, word_at, words_at,
    ],
    "anyplaces.orders": [good_order, how_many_even, is_good_order, least_twos, places_with, uneven_branch],
    "anyplaces.alike": [are_alike, exchange, first_alike, how_many_alike, parting_level],
    "anyplaces.codes": [codeword, coefficients_of, is_codeword, items_of, misfit],
    "anyplaces.sizes": [
        codeword_at, codeword_number, full_count, how_many_codewords, item_count, item_widths, width_for,
    ],
    "anyplaces.telling": [bit_rows, first_base, hidden, is_base, is_telling],
    "anyplaces.bases": [
        all_bases, always_read, base_numbered, cheapest_base, how_many_bases, is_cheapest, put_in_for, splits,
        telling_counts,
    ],
    "anyplaces.fitting": [fit_numbered, fits, how_many_ahead, how_many_fit],
    "anyplaces.bits": [bits_told, closure, low_bits, low_by_low, possible, told_bits, untold],
    "anyplaces.helpers": [fewest_helpers, follows, helpers, is_helpers, reach, steps_needed],
    "anyplaces.distance": [
        by_widths, distance, how_many_light, hurting, is_lightest, least_lost, lightest, neighbour_distance,
    ],
    "anyplaces.mending": [
        block_counts, clean_block, is_mended, mendable, mendable_left, mended, mended_known, wrong_at,
    ],
    "anyplaces.lowbits": [mendable_bits, mended_bits],
    "anyplaces.checks": [alarm, alarms, check_of, check_parts, how_many_checks, is_check, triangle],
    "anyplaces.alarms": [alike_change, look_alikes, unseen],
    "anyplaces.within": [first_above, how_many_above, how_many_stretched, least_count, stretched_coefficients],
    "anyplaces.joined": [beside_at, how_many_beside, number_beside, part_bits, said_bits],
    "anyplaces.grids": [
        filled_grid, grid_distance, grid_items, grid_size, grid_word, how_many_both, is_grid_word, light_grid,
        meeting_tells, numbers_of,
    ],
    "anyplaces.lines": [line_of, of_line],
    "anyplaces.store": [Store, is_deed],
}


def right_calls():
    """Ordinary calls, their arguments in the order in which the document writes them."""
    four = [0, 1, 2, 4]
    six = [0, 1, 2, 3, 4, 5]
    wrong = [0, 1, 7, 3, 4, 5]
    return [
        (is_width, {"value": 5}),
        (is_word, {"width": 3, "value": 5}),
        (is_places, {"width": 3, "value": [0, 5]}),
        (is_words, {"width": 3, "places": [0, 5], "value": [1, 1]}),
        (is_known, {"width": 3, "places": [0, 5], "value": [(5, 1)]}),
        (twos_in, {"number": 24}),
        (word_at, {"width": 3, "coefficients": [1, 2, 3], "number": 5}),
        (words_at, {"width": 3, "coefficients": [1, 2, 3], "places": [0, 1, 5]}),
        (parting_places, {"width": 3, "places": [0, 5], "words": [1, 2], "others": [1, 3]}),
        (good_order, {"width": 4, "places": list(four)}),
        (is_good_order, {"width": 4, "places": list(four), "value": [4, 1, 2, 0]}),
        (least_twos, {"width": 4, "places": list(four), "many": 3}),
        (uneven_branch, {"width": 4, "places": list(four)}),
        (how_many_even, {"width": 4, "many": 3}),
        (places_with, {"width": 4, "numbers": [0, 0, 1, 3]}),
        (are_alike, {"width": 3, "one": list(four), "other": [3, 4, 5, 7]}),
        (exchange, {"width": 3, "one": list(four), "other": [3, 4, 5, 7]}),
        (parting_level, {"width": 4, "one": list(four), "other": [0, 1, 2, 9]}),
        (how_many_alike, {"width": 4, "places": list(four)}),
        (first_alike, {"width": 3, "places": [3, 4, 5, 7]}),
        (codeword, {"width": 3, "places": list(four), "count": 3, "items": [1, 2, 3]}),
        (items_of, {"width": 3, "places": list(four), "count": 3, "words": [0, 1, 4, 0]}),
        (is_codeword, {"width": 3, "places": list(four), "count": 3, "value": [0, 1, 4, 0]}),
        (misfit, {"width": 3, "places": list(four), "count": 2, "words": [0, 1, 4, 0]}),
        (coefficients_of, {"width": 3, "places": list(four), "count": 3, "items": [1, 2, 3]}),
        (item_count, {"width": 3, "places": list(four), "count": 3}),
        (how_many_codewords, {"width": 3, "places": list(four), "count": 3}),
        (full_count, {"width": 3, "places": list(four)}),
        (codeword_number, {"width": 3, "places": list(four), "count": 3, "words": [0, 1, 4, 0]}),
        (codeword_at, {"width": 3, "places": list(four), "count": 3, "number": 99}),
        (item_widths, {"places": list(four), "count": 3}),
        (width_for, {"places": list(four), "count": 3, "many": 9}),
        (is_telling, {"width": 3, "places": list(four), "count": 2, "part": [0, 2, 4]}),
        (hidden, {"width": 3, "places": list(four), "count": 2, "part": [0, 2, 4]}),
        (bit_rows, {"width": 3, "places": list(four), "count": 4}),
        (is_base, {"width": 3, "places": list(four), "count": 2, "value": [1, 4]}),
        (first_base, {"width": 3, "places": list(four), "count": 2, "part": [1, 2, 4]}),
        (put_in_for, {"width": 3, "places": list(four), "count": 2, "base": [0, 1], "place": 2}),
        (always_read, {"width": 3, "places": list(four), "count": 3}),
        (cheapest_base, {"width": 3, "places": list(four), "count": 2, "prices": [5, 1, 2, 2]}),
        (is_cheapest, {"width": 3, "places": list(four), "count": 2, "prices": [5, 1, 2, 2], "value": [1, 4]}),
        (splits, {"places": [0, 1, 2, 3], "j": 3}),
        (how_many_bases, {"width": 3, "places": list(four), "count": 2}),
        (telling_counts, {"width": 3, "places": list(four), "count": 2}),
        (all_bases, {"width": 3, "places": list(four), "count": 2}),
        (base_numbered, {"width": 3, "places": list(four), "count": 2, "number": 2}),
        (fits, {"width": 3, "places": list(four), "count": 3, "known": [(0, 1), (1, 3)]}),
        (how_many_fit, {"width": 3, "places": list(four), "count": 3, "known": [(0, 1), (1, 3)]}),
        (fit_numbered, {"width": 3, "places": list(four), "count": 3, "known": [(0, 1), (1, 3)], "number": 2}),
        (how_many_ahead, {"width": 3, "places": list(four), "count": 3, "known": [(0, 1)], "words": [1, 3, 5, 0]}),
        (bits_told, {"width": 3, "places": list(four), "count": 3, "asked": [0, 1], "place": 4}),
        (told_bits, {"width": 3, "places": list(four), "count": 3, "asked": [0, 1]}),
        (possible, {"width": 3, "places": list(four), "count": 3, "known": [(0, 1), (1, 3)], "place": 2}),
        (closure, {"width": 3, "places": list(four), "count": 3, "asked": [0, 2]}),
        (untold, {"width": 3, "places": list(four), "count": 3, "asked": [0, 1], "place": 4}),
        (low_bits, {"width": 3, "places": list(four), "count": 3, "asked": [0, 1]}),
        (low_by_low, {"places": list(four), "count": 3, "asked": [0, 1]}),
        (follows, {"width": 3, "places": list(four), "count": 3, "allowed": [1, 2, 4], "place": 0}),
        (fewest_helpers, {"width": 3, "places": list(four), "count": 3, "allowed": [1, 2, 4], "place": 0}),
        (helpers, {"width": 3, "places": list(four), "count": 3, "allowed": [1, 2, 4], "place": 0}),
        (is_helpers, {
            "width": 3, "places": list(four), "count": 3, "allowed": [1, 2, 4], "place": 0, "value": [2, 4]}),
        (reach, {"places": list(four), "count": 3, "allowed": [1, 2, 4], "place": 0}),
        (steps_needed, {"width": 64, "count": 66, "bits": 16}),
        (distance, {"width": 3, "places": list(four), "count": 1}),
        (hurting, {"width": 3, "places": list(four), "count": 1}),
        (least_lost, {"places": [0, 1, 2, 3], "j": 2}),
        (lightest, {"width": 3, "places": list(four), "count": 2}),
        (is_lightest, {"width": 3, "places": list(four), "count": 2, "value": [0, 4, 0, 0]}),
        (by_widths, {"places": list(four), "count": 4}),
        (how_many_light, {"width": 3, "places": list(four), "count": 2}),
        (neighbour_distance, {"many": 12, "items": 6}),
        (mendable, {"width": 3, "places": list(six), "count": 2}),
        (mended, {"width": 3, "places": list(six), "count": 2, "words": list(wrong)}),
        (wrong_at, {"width": 3, "places": list(six), "count": 2, "words": list(wrong)}),
        (is_mended, {"width": 3, "places": list(six), "count": 2, "words": list(wrong), "value": list(six)}),
        (block_counts, {"width": 3, "places": list(six), "count": 2, "words": list(wrong)}),
        (clean_block, {"width": 3, "places": list(six), "count": 2, "words": list(wrong)}),
        (mendable_left, {"width": 3, "places": list(six), "count": 2, "left": [0, 1, 2, 4, 5]}),
        (mended_known, {"width": 3, "places": list(six), "count": 1, "known": [(0, 7), (1, 7), (2, 6), (5, 7)]}),
        (mendable_bits, {"width": 3, "places": list(six), "count": 4}),
        (mended_bits, {"width": 3, "places": list(six), "count": 4, "words": list(wrong)}),
        (is_check, {"width": 3, "places": list(four), "count": 2, "value": [1, 6, 1, 0]}),
        (how_many_checks, {"width": 3, "places": list(four), "count": 2}),
        (triangle, {"width": 3, "places": list(four), "count": 2}),
        (check_parts, {"width": 3, "places": list(four), "count": 3, "check": [2, 0, 4, 2]}),
        (check_of, {"width": 3, "places": list(four), "count": 3, "parts": [0, 0, 1, 2]}),
        (alarm, {"width": 3, "places": list(four), "count": 2, "words": [0, 1, 3, 4]}),
        (alarms, {"width": 3, "places": list(four), "count": 2, "words": [0, 1, 3, 5]}),
        (unseen, {"width": 3, "places": list(four), "count": 2, "place": 1}),
        (look_alikes, {"width": 3, "places": [0, 1, 2, 3], "count": 2}),
        (alike_change, {"width": 3, "places": list(four), "count": 2, "one": 2, "other": 1}),
        (least_count, {"width": 3, "places": [0, 1, 2, 3], "words": [1, 3, 3, 1]}),
        (how_many_above, {"width": 3, "places": list(four), "count": 3, "bits": 1, "words": [1, 1, 1, 1]}),
        (first_above, {"width": 3, "places": list(four), "count": 3, "bits": 2, "words": [0, 1, 2, 0]}),
        (stretched_coefficients, {
            "width": 3, "places": [0, 1, 2, 3], "count": 3, "bits": 1, "words": [0, 2, 4, 6]}),
        (how_many_stretched, {"width": 3, "places": list(four), "count": 3, "bits": 1}),
        (part_bits, {"width": 3, "places": list(four), "count": 3, "part": [0, 2]}),
        (said_bits, {"width": 3, "places": list(four), "count": 3, "one": [0], "other": [2], "third": [1]}),
        (how_many_beside, {"width": 3, "places": list(four), "count": 3, "known": [(0, 1)], "part": [2, 4]}),
        (beside_at, {"width": 3, "places": list(four), "count": 3, "known": [(0, 1)], "part": [2, 4], "number": 3}),
        (number_beside, {
            "width": 3, "places": list(four), "count": 3, "known": [(0, 1)], "part": [2, 4], "words": [3, 1]}),
        (grid_items, {"width": 2, "rows": [0, 2], "columns": [0, 1, 2], "count": 2, "other_count": 3}),
        (grid_size, {"width": 2, "rows": [0, 2], "columns": [0, 1, 2], "count": 2, "other_count": 3}),
        (grid_word, {
            "width": 2, "rows": [0, 2], "columns": [0, 2], "count": 2, "other_count": 2, "numbers": [1, 1, 1]}),
        (numbers_of, {
            "width": 2, "rows": [0, 2], "columns": [0, 2], "count": 2, "other_count": 2, "table": [[1, 3], [3, 1]]}),
        (is_grid_word, {
            "width": 2, "rows": [0, 2], "columns": [0, 2], "count": 2, "other_count": 2, "value": [[1, 3], [3, 1]]}),
        (how_many_both, {"width": 2, "rows": [0, 2], "columns": [0, 2], "count": 2, "other_count": 2}),
        (meeting_tells, {
            "width": 2, "rows": [0, 2], "columns": [0, 2], "count": 2, "other_count": 1, "some_rows": [0, 2],
            "some_columns": [2]}),
        (filled_grid, {
            "width": 2, "rows": [0, 1], "columns": [0, 2], "count": 2, "other_count": 1, "some_rows": [0, 1],
            "some_columns": [2], "table": [[1], [2]]}),
        (grid_distance, {"width": 2, "rows": [0, 2], "columns": [0, 2], "count": 2, "other_count": 2}),
        (light_grid, {"width": 2, "rows": [0, 2], "columns": [0, 1, 2], "count": 2, "other_count": 1}),
        (line_of, {"width": 4, "places": [1, 2, 9], "count": 2, "known": [(1, 7), (9, 15)]}),
        (of_line, {"line": "4@1,2,9/2:7 - 15"}),
        (Store, {"width": 3, "places": list(four), "count": 2}),
        (is_deed, {"store": Store(3, four, 2), "value": ("write", [7, 7])}),
    ]
