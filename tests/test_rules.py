import copy
import inspect
import random
import time
import unittest

from anyplaces.alarms import alike_change, look_alikes, unseen
from anyplaces.alike import are_alike, exchange, first_alike, how_many_alike, parting_level
from anyplaces.bases import (
    all_bases, always_read, base_numbered, cheapest_base, how_many_bases, is_cheapest, put_in_for, splits,
    telling_counts,
)
from anyplaces.bits import bits_told, closure, low_bits, low_by_low, possible, told_bits, untold
from anyplaces.checks import alarm, alarms, check_of, check_parts, how_many_checks, is_check, triangle
from anyplaces.codes import codeword, coefficients_of, is_codeword, items_of, misfit
from anyplaces.distance import (
    by_widths, distance, how_many_light, hurting, is_lightest, least_lost, lightest, neighbour_distance,
)
from anyplaces.errors import TooMany
from anyplaces.fitting import fit_numbered, fits, how_many_ahead, how_many_fit
from anyplaces.grids import (
    filled_grid, grid_distance, grid_items, grid_size, grid_word, how_many_both, is_grid_word, light_grid,
    meeting_tells, numbers_of,
)
from anyplaces.helpers import fewest_helpers, follows, helpers, is_helpers, reach, steps_needed
from anyplaces.joined import beside_at, how_many_beside, number_beside, part_bits, said_bits
from anyplaces.kinds import is_known, is_places, is_words, parting_places, words_at
from anyplaces.lines import line_of, of_line
from anyplaces.lowbits import mendable_bits, mended_bits
from anyplaces.mending import (
    block_counts, clean_block, is_mended, mendable, mendable_left, mended, mended_known, wrong_at,
)
from anyplaces.orders import good_order, how_many_even, is_good_order, least_twos, places_with, uneven_branch
from anyplaces.sizes import (
    codeword_at, codeword_number, full_count, how_many_codewords, item_count, item_widths, width_for,
)
from anyplaces.store import Store, is_deed
from anyplaces.telling import bit_rows, first_base, hidden, is_base, is_telling
from anyplaces.within import first_above, how_many_above, how_many_stretched, least_count, stretched_coefficients
from tests.calls import FILES, right_calls
from tests.wrong import GREATEST


def lists_in(value):
    """All list objects within a value, each as often as it occurs."""
    if not isinstance(value, (list, tuple)):
        return []
    own = [value] if isinstance(value, list) else []
    return own + [inner for item in value for inner in lists_in(item)]


class TestInterface(unittest.TestCase):
    def test_all_functions_are_called(self):
        called = {function for function, _ in right_calls()}
        self.assertEqual(called, {function for functions in FILES.values() for function in functions})

    def test_defined_in_their_files(self):
        for name, functions in FILES.items():
            for function in functions:
                self.assertEqual(function.__module__, name)

    def test_names_of_arguments(self):
        for function, arguments in right_calls():
            self.assertEqual(list(inspect.signature(function).parameters), list(arguments), function.__name__)

    def test_by_position_and_by_name(self):
        for function, arguments in right_calls():
            by_position = function(*arguments.values())
            self.assertEqual(function(**arguments), by_position, function.__name__)
            first, *rest = arguments
            mixed = function(arguments[first], **{name: arguments[name] for name in rest})
            self.assertEqual(mixed, by_position, function.__name__)


class TestLists(unittest.TestCase):
    def test_arguments_stay(self):
        for function, arguments in right_calls():
            before = copy.deepcopy(arguments)
            function(**arguments)
            self.assertEqual(arguments, before, function.__name__)

    def test_answers_are_new(self):
        for function, arguments in right_calls():
            answer = function(**arguments)
            kept = copy.deepcopy(answer)
            found = lists_in(answer)
            handed = [inner for value in arguments.values() for inner in lists_in(value)]
            places = [id(one) for one in found]
            self.assertEqual(len(places), len(set(places)), function.__name__)
            self.assertFalse(set(places) & {id(one) for one in handed}, function.__name__)
            for one in found:
                one.append("changed")
                one.reverse()
            again = function(**arguments)
            self.assertEqual(again, kept, function.__name__)
            self.assertEqual(again.__class__, kept.__class__)

    def test_whatever_lies_between(self):
        answers = [function(**arguments) for function, arguments in right_calls()]
        order = list(range(len(answers)))
        for seed in range(3):
            random.Random(seed).shuffle(order)
            calls = right_calls()
            for at in order:
                function, arguments = calls[at]
                self.assertEqual(function(**arguments), answers[at], function.__name__)

    def test_kinds_of_answers(self):
        # what tells whether something is so is a Boolean, and nothing else is one
        whether = {"are_alike", "fits", "follows", "meeting_tells"}
        for function, arguments in right_calls():
            answer = function(**arguments)
            told = function.__name__.startswith("is_") or function.__name__ in whether
            self.assertIs(isinstance(answer, bool), told, function.__name__)


def greatest_places():
    chance = random.Random(11)
    return [
        list(range(64)),
        list(range(2 ** 64 - 64, 2 ** 64)),
        [k * 2 ** 58 for k in range(64)],
        [2 ** k - 1 for k in range(1, 65)],
        sorted([(k // 2) * 2 ** 59 + k % 2 for k in range(64)]),
        sorted({chance.getrandbits(64) for _ in range(64)}),
    ]


class TestGreatest(unittest.TestCase):
    SECONDS = 5

    def quick(self, function, *arguments):
        begun = time.monotonic()
        answer = function(*arguments)
        self.assertLess(time.monotonic() - begun, self.SECONDS, function.__name__)
        return answer

    def test_kinds(self):
        coefficients = [GREATEST, -GREATEST] * 32
        for places in greatest_places():
            self.assertTrue(self.quick(is_places, 64, places))
            words = self.quick(words_at, 64, coefficients, places)
            self.assertTrue(self.quick(is_words, 64, places, words))
            self.assertTrue(self.quick(is_known, 64, places, list(zip(places, words))))
            self.assertEqual(self.quick(parting_places, 64, places, words, words), [])

    def test_orders(self):
        for places in greatest_places():
            order, numbers = self.quick(good_order, 64, places)
            self.assertTrue(self.quick(is_good_order, 64, places, order))
            self.assertEqual(self.quick(least_twos, 64, places, 64), sum(numbers))
            self.quick(uneven_branch, 64, places)
            first = self.quick(places_with, 64, good_order(64, places[:8])[1])
            self.assertEqual(len(first), 8)
        for many in range(65):
            self.assertGreater(self.quick(how_many_even, 64, many), 0)
        for behind in [[0, 1, 1, 3, 3, 4, 4], [0, 1, 3, 7, 9, 12, 15], [0, 1, 2, 3, 4, 5, 6], [0, 63, 66, 70, 90, 95, 99]]:
            self.quick(places_with, 64, [0] + behind)

    def test_alike(self):
        for places in greatest_places():
            other = sorted((5 * place + 7) % 2 ** 64 for place in places)
            self.assertTrue(self.quick(are_alike, 64, places, other))
            self.assertEqual(len(self.quick(exchange, 64, places, other)), 64)
            self.assertIsNone(self.quick(parting_level, 64, places, other))
            self.assertGreater(self.quick(how_many_alike, 64, places), 0)
            self.assertEqual(self.quick(first_alike, 64, places), first_alike(64, other))

    def test_exchange_again_and_again(self):
        # one call alone is soon through; what a caller asks often adds up
        begun = time.monotonic()
        for _ in range(100):
            for places in [list(range(64)), [k * 2 ** 58 for k in range(64)]]:
                self.assertEqual(exchange(64, places, places), places)
        self.assertLess(time.monotonic() - begun, self.SECONDS)

    def test_codes(self):
        for places in greatest_places():
            for count in [64, GREATEST]:
                total = self.quick(how_many_codewords, 64, places, count)
                words = self.quick(codeword_at, 64, places, count, total - 1)
                items = self.quick(items_of, 64, places, count, words)
                self.assertEqual(len(items), self.quick(item_count, 64, places, count))
                self.assertEqual(self.quick(codeword, 64, places, count, items), words)
                self.assertTrue(self.quick(is_codeword, 64, places, count, words))
                self.assertIsNone(self.quick(misfit, 64, places, count, words))
                self.assertEqual(self.quick(codeword_number, 64, places, count, words), total - 1)
                coefficients = self.quick(coefficients_of, 64, places, count, items)
                self.assertEqual(words_at(64, coefficients, places), words)
                self.assertEqual(len(self.quick(item_widths, places, count)), 64)
                self.assertIsNone(self.quick(width_for, places, count, GREATEST))
            self.assertEqual(self.quick(full_count, 64, places), len(items))

    def test_telling(self):
        for places in greatest_places():
            for count in [20, 64, GREATEST]:
                self.assertTrue(self.quick(is_telling, 64, places, count, places))
                self.assertIsNone(self.quick(hidden, 64, places, count, places))
                self.assertTrue(any(self.quick(hidden, 64, places, count, places[:1])))
                base = self.quick(first_base, 64, places, count, places)
                self.assertTrue(self.quick(is_base, 64, places, count, base))
                self.assertEqual(len(self.quick(bit_rows, 64, places, count)), len(base))

    def test_bases(self):
        for places in greatest_places():
            for count in [3, 20, 40, GREATEST]:
                base = first_base(64, places, count, places)
                for place in [one for one in places if one not in base][-3:]:
                    self.assertTrue(self.quick(put_in_for, 64, places, count, base, place))
                self.assertLessEqual(set(self.quick(always_read, 64, places, count)), set(base))
                prices = [GREATEST - place % 7 for place in places]
                total, cheapest = self.quick(cheapest_base, 64, places, count, prices)
                self.assertTrue(self.quick(is_cheapest, 64, places, count, prices, cheapest))
                self.assertEqual(total, sum(prices[places.index(place)] for place in cheapest))
                many = self.quick(how_many_bases, 64, places, count)
                self.assertEqual(self.quick(telling_counts, 64, places, count)[len(base)], many)
                last = self.quick(base_numbered, 64, places, count, many - 1)
                self.assertEqual(self.quick(base_numbered, 64, places, count, 0), base)
                if many <= 2000:
                    bases = self.quick(all_bases, 64, places, count)
                    self.assertEqual([len(bases), bases[0], bases[-1]], [many, base, last])
                else:
                    self.assertRaises(TooMany, all_bases, 64, places, count)
            for j in range(65):
                self.quick(splits, places, j)

    def test_fitting(self):
        for places in greatest_places():
            for count in [3, 40, 64, GREATEST]:
                words = codeword_at(64, places, count, how_many_codewords(64, places, count) * 2 // 3)
                for asked in [[], places[1:2], places[7:50:5], places]:
                    known = [(place, words[places.index(place)]) for place in asked]
                    self.assertTrue(self.quick(fits, 64, places, count, known))
                    many = self.quick(how_many_fit, 64, places, count, known)
                    number = self.quick(how_many_ahead, 64, places, count, known, words)
                    self.assertLess(number, many)
                    self.assertEqual(self.quick(fit_numbered, 64, places, count, known, number), words)
                    self.assertTrue(self.quick(is_codeword, 64, places, count, fit_numbered(64, places, count, known, 0)))

    def test_bits(self):
        for places in greatest_places():
            for count in [3, 40, GREATEST]:
                for asked in [[], places[1:2], places[7:50:5], places]:
                    told = self.quick(told_bits, 64, places, count, asked)
                    self.assertEqual(self.quick(bits_told, 64, places, count, asked, places[9]), told[9])
                    self.assertEqual(self.quick(low_bits, 64, places, count, asked), min(told))
                    whole = self.quick(closure, 64, places, count, asked)
                    self.assertEqual(whole, [place for place, bits in zip(places, told) if bits == 64])
                    words = self.quick(untold, 64, places, count, asked, places[-1])
                    self.assertIs(words is None, places[-1] in whole)
                    known = [(place, 0) for place in asked]
                    self.assertEqual(self.quick(possible, 64, places, count, known, places[9]), (0, told[9]))
                    self.quick(low_by_low, places, count, asked)

    def test_helpers(self):
        for places in greatest_places():
            for count in [3, 40, GREATEST]:
                for at in [0, 20, 63]:
                    place = places[at]
                    allowed = places[:at] + places[at + 1:]
                    fewest = self.quick(fewest_helpers, 64, places, count, allowed, place)
                    found = self.quick(helpers, 64, places, count, allowed, place)
                    self.assertIs(self.quick(follows, 64, places, count, allowed, place), found is not None)
                    self.assertEqual(None if found is None else len(found), fewest)
                    told = self.quick(is_helpers, 64, places, count, allowed, place, found or allowed)
                    self.assertIs(told, found is not None)
                    self.assertEqual(self.quick(reach, places, count, allowed, place)[0], 0)
        for bits in range(65):
            self.quick(steps_needed, 64, GREATEST, bits)

    def test_distance(self):
        for places in greatest_places():
            for count in [1, 3, 20, 40, GREATEST]:
                least = self.quick(distance, 64, places, count)
                self.assertEqual(len(self.quick(hurting, 64, places, count)), least)
                words = self.quick(lightest, 64, places, count)
                self.assertTrue(self.quick(is_lightest, 64, places, count, words))
                self.assertEqual(len([word for word in words if word]), least)
                self.assertGreater(self.quick(how_many_light, 64, places, count), 0)
                self.assertEqual(self.quick(by_widths, places, count)[-1][2], least)
            for j in range(1, 65):
                self.assertGreater(self.quick(least_lost, places, j), 0)
        for items in [1, 2, 10 ** 15 + 1, GREATEST // 3, GREATEST]:
            self.assertGreater(self.quick(neighbour_distance, GREATEST, items), 0)

    def test_mending(self):
        chance = random.Random(12)
        twelves = [sorted(chance.sample(range(2 ** bits), 12)) for bits in [4, 5, 6, 20, 60] * 2]
        for places in twelves + [list(range(64)), list(range(2 ** 64 - 64, 2 ** 64))]:
            for count in [1, 2, 3, 4, 6, 9, 20, 64]:
                words = codeword_at(64, places, count, how_many_codewords(64, places, count) // 3)
                many = self.quick(mendable, 64, places, count)
                wrong = [word ^ (at < many) for at, word in enumerate(words)]
                self.assertEqual(self.quick(mended, 64, places, count, wrong), words)
                self.assertEqual(self.quick(wrong_at, 64, places, count, wrong), places[:many])
                self.assertTrue(self.quick(is_mended, 64, places, count, wrong, words))
                self.assertEqual(self.quick(mendable_left, 64, places, count, places), many)
                known = list(zip(places, wrong))
                self.assertEqual(self.quick(mended_known, 64, places, count, known), words)
                self.assertEqual(self.quick(mendable_bits, 64, places, count)[-1], many)
                self.assertEqual(self.quick(mended_bits, 64, places, count, wrong), (64, words))
                for _ in range(2):
                    anything = [chance.getrandbits(64) for _ in places]
                    self.quick(mended, 64, places, count, anything)
                    self.quick(mended_bits, 64, places, count, anything)
                if len(places) == 64:
                    counts = self.quick(block_counts, 64, places, count, wrong)
                    self.assertEqual(counts[self.quick(clean_block, 64, places, count, wrong)], many)

    def test_checks(self):
        for places in greatest_places():
            for count in [0, 3, 40, 64, GREATEST]:
                rows = self.quick(triangle, 64, places, count)
                many = self.quick(how_many_checks, 64, places, count)
                check = [sum(column) % 2 ** 64 for column in zip(*rows)]
                self.assertTrue(self.quick(is_check, 64, places, count, check))
                parts = self.quick(check_parts, 64, places, count, check)
                self.assertEqual(self.quick(check_of, 64, places, count, parts), check)
                words = codeword_at(64, places, count, how_many_codewords(64, places, count) // 3)
                self.assertEqual(many * how_many_codewords(64, places, count), 2 ** 4096)
                self.assertIsNone(self.quick(alarm, 64, places, count, words))
                words[-1] ^= 1
                told = self.quick(alarms, 64, places, count, words)
                first = self.quick(alarm, 64, places, count, words)
                self.assertEqual(first, next(((k, word) for k, word in enumerate(told) if word), None))
                self.assertIn(self.quick(unseen, 64, places, count, places[-1]), [None] + [2 ** k for k in range(64)])

    def test_look_alikes(self):
        for places in greatest_places():
            for count in [1, 3, 12, GREATEST]:
                for some in [places[:24], places[::3], places[-24:]]:
                    pairs = self.quick(look_alikes, 64, some, count)
                    told = self.quick(alike_change, 64, some, count, some[0], some[-1])
                    self.assertIs(told is not None, (some[0], some[-1]) in pairs)

    def test_within(self):
        for places in greatest_places():
            for count in [3, 40, GREATEST]:
                words = codeword_at(64, places, count, how_many_codewords(64, places, count) * 2 // 3)
                self.assertLessEqual(self.quick(least_count, 64, places, words), count)
                for bits in [1, 20, 64]:
                    lows = [word % 2 ** bits for word in words]
                    self.assertGreater(self.quick(how_many_above, 64, places, count, bits, lows), 0)
                    first = self.quick(first_above, 64, places, count, bits, lows)
                    self.assertEqual([word % 2 ** bits for word in first], lows)
                for bits in [0, 1, 64]:
                    self.quick(stretched_coefficients, 64, places, count, bits, words)
                    self.assertGreater(self.quick(how_many_stretched, 64, places, count, bits), 0)

    def test_joined(self):
        for places in greatest_places():
            for count in [3, 40, GREATEST]:
                words = codeword_at(64, places, count, how_many_codewords(64, places, count) * 2 // 3)
                for asked, part in [([], places), (places[1:2], places[7:50:5]), (places[7:50:5], places[::2]), (places, places)]:
                    known = [(place, words[places.index(place)]) for place in asked]
                    mine = [words[places.index(place)] for place in part]
                    many = self.quick(how_many_beside, 64, places, count, known, part)
                    number = self.quick(number_beside, 64, places, count, known, part, mine)
                    self.assertLess(number, many)
                    self.assertEqual(self.quick(beside_at, 64, places, count, known, part, number), mine)
                    self.assertLessEqual(self.quick(said_bits, 64, places, count, part, asked, places[20:40]),
                                         self.quick(part_bits, 64, places, count, part))

    def test_grids(self):
        lists = [places[:40] for places in greatest_places()] + [places[::-2][::-1] for places in greatest_places()]
        for rows, columns in zip(lists, lists[1:] + lists[:1]):
            for counts in [(3, 5), (40, 2), (GREATEST, GREATEST)]:
                grid = (64, rows, columns, *counts)
                self.assertGreater(self.quick(grid_size, *grid), 1)
                self.assertGreater(self.quick(how_many_both, *grid), 1)
                orders = good_order(64, rows)[1], good_order(64, columns)[1]
                numbers = [2 ** (64 - orders[0][i] - orders[1][j]) - 1 for i, j in self.quick(grid_items, *grid)]
                table = self.quick(grid_word, *grid, numbers)
                self.assertEqual(self.quick(numbers_of, *grid, table), numbers)
                self.assertTrue(self.quick(is_grid_word, *grid, table))
                self.assertTrue(self.quick(meeting_tells, *grid, rows, columns))
                self.assertEqual(self.quick(filled_grid, *grid, rows, columns, table), table)
                light = self.quick(light_grid, *grid)
                self.assertEqual(sum(word > 0 for words in light for word in words), self.quick(grid_distance, *grid))

    def test_lines(self):
        for places in greatest_places():
            known = [(place, 2 ** 64 - 1) for place in places]
            line = self.quick(line_of, 64, places, GREATEST, known)
            self.assertEqual(self.quick(of_line, line), (64, places, GREATEST, known))

    def test_store(self):
        for places in greatest_places():
            store = Store(64, places[:63], 40)
            words = codeword_at(64, places[:63], 40, how_many_codewords(64, places[:63], 40) // 3)
            begun = time.monotonic()
            for place, word in list(zip(places, words))[::2]:
                store.do(("set", place, word))
            for deed in [("fill",), ("put", places[63]), ("count", GREATEST), ("take", places[3])]:
                self.assertTrue(is_deed(store, deed))
                store.do(deed)
            # many deeds, and all of them back and again
            for k in range(3000):
                store.do(("set", places[0], words[0] ^ k & 1))
            self.assertEqual(len(store.log()), 3036)
            self.assertEqual(store.copy(), store)
            self.assertIs(store.choices() == 1, store.told() == store.places())
            for _ in range(3036):
                store.undo()
            for _ in range(3036):
                store.redo()
            store.undo()
            self.assertGreater(store.choices(), 0)
            self.assertLess(time.monotonic() - begun, self.SECONDS)


if __name__ == "__main__":
    unittest.main()
