import random
import unittest
from itertools import combinations, permutations, product

from anyplaces.codes import is_codeword
from anyplaces.errors import InvalidNumber, InvalidPlaces, InvalidWidth, Unfit
from anyplaces.orders import good_order
from anyplaces.sizes import item_count
from anyplaces.telling import bit_rows, first_base, hidden, is_base, is_telling
from tests.plain import all_codewords, all_twos, good_orders, parts_of, product_of
from tests.test_codes import SMALL, random_code
from tests.wrong import (
    GREATEST, NO_COUNTS, NO_WIDTHS, ODD, check_judged, check_refusals, no_parts, no_places,
)

FOUR = [0, 1, 2, 4]
CODES = SMALL + [(2, [0, 1, 2, 3], 0), (3, FOUR, 1), (3, FOUR, 2), (3, FOUR, 3), (3, [0, 2, 4, 6], 3), (3, [1, 2, 5, 6], 3)]


def read(words, places, part):
    return tuple(words[places.index(place)] for place in part)


def told_by_listing(width, places, count):
    """All telling parts, found by comparing all codewords."""
    listed = all_codewords(width, places, count)
    return [part for part in parts_of(places) if len({read(words, places, part) for words in listed}) == len(listed)]


def hidden_by_rule(width, places, count, part):
    """The codeword told so for a part that is not telling."""
    order, numbers = ([], []) if part == [] else (min(good_orders(part)), good_order(width, part)[1])
    all_numbers = good_order(width, places)[1]
    many = len([number for number in all_numbers[:count] if number < width])
    endless = numbers + [10 ** 9] * many
    k = [at for at in range(many) if endless[at] > all_numbers[at]][0]
    return [product_of(order[:k], x) * 2 ** (width - min(width, endless[k])) % 2 ** width for x in places]


def odd_determinant(rows):
    total = 0
    for order in permutations(range(len(rows))):
        total += all(rows[k][at] for k, at in enumerate(order))
    return total % 2 == 1


class TestExamples(unittest.TestCase):
    def test_telling(self):
        self.assertEqual(
            [is_telling(3, FOUR, 2, [0, 2, 4]), hidden(3, FOUR, 2, [0, 2, 4]), is_telling(3, FOUR, 2, [1, 4]),
             hidden(3, FOUR, 2, [1, 4]), hidden(3, FOUR, 2, [])],
            [False, [0, 4, 0, 0], True, None, [1, 1, 1, 1]])

    def test_bases(self):
        self.assertEqual(
            [is_base(3, FOUR, 2, [1, 4]), is_base(3, FOUR, 2, [0, 1, 2]), first_base(3, FOUR, 2, FOUR),
             first_base(3, FOUR, 2, [1, 2, 4]), first_base(3, FOUR, 2, [2, 4])],
            [True, False, [0, 1], [1, 2], None])
        self.assertEqual(
            [bit_rows(3, FOUR, 2), bit_rows(3, FOUR, 4)],
            [[[1, 1, 1, 1], [0, 1, 0, 0]], [[1, 1, 1, 1], [0, 1, 0, 0], [0, 0, 1, 0]]])
        self.assertEqual(first_base(3, FOUR, 0, []), [])


class TestTellingParts(unittest.TestCase):
    def test_listed(self):
        for width, places, count in CODES:
            telling = told_by_listing(width, places, count)
            many = item_count(width, places, count)
            for part in parts_of(places):
                self.assertIs(is_telling(width, places, count, part), part in telling)
                least = min(all_twos(chosen) for chosen in combinations(places, many))
                as_seldom = any(all_twos(chosen) == least for chosen in combinations(part, many))
                self.assertIs(is_telling(width, places, count, part), as_seldom)

    def test_hidden(self):
        for width, places, count in CODES:
            listed = all_codewords(width, places, count)
            for part in parts_of(places):
                words = hidden(width, places, count, part)
                if is_telling(width, places, count, part):
                    self.assertIsNone(words)
                    continue
                self.assertEqual(words, hidden_by_rule(width, places, count, part))
                self.assertIn(tuple(words), listed)
                self.assertTrue(any(words))
                self.assertFalse(any(read(words, places, part)))

    def test_larger_codes(self):
        chance = random.Random(51)
        for width in [4, 8, 20, 64] * 8:
            code = random_code(chance, width)
            places = code[1]
            part = sorted(chance.sample(places, chance.randint(0, min(6, len(places)))))
            words = hidden(*code, part)
            self.assertIs(words is None, is_telling(*code, part))
            if words is not None:
                self.assertEqual(words, hidden_by_rule(*code, part))
                self.assertTrue(is_codeword(*code, words))
                self.assertTrue(any(words))
                self.assertFalse(any(read(words, places, part)))

    def test_edges(self):
        last = 2 ** 64 - 1
        self.assertIs(is_telling(64, [last], 1, []), False)
        self.assertEqual(hidden(64, [last], 1, []), [1])
        self.assertIs(is_telling(64, [last], GREATEST, [last]), True)
        self.assertIs(is_telling(64, [last], 0, []), True)
        self.assertIsNone(hidden(64, [last], 0, []))
        self.assertIs(is_telling(1, [0, 1], 2, [1]), False)
        self.assertEqual(hidden(1, [0, 1], 2, [1]), [1, 0])
        self.assertEqual(hidden(64, [0, 1, 2 ** 63], 2, [0, 2 ** 63]), [0, 2, 0])
        self.assertEqual(hidden(64, list(range(64)), 64, [])[:3], [1, 1, 1])
        self.assertIs(is_telling(64, list(range(64)), 63, list(range(1, 64))), True)
        # whole lists always tell
        for width, places, count in CODES:
            self.assertIs(is_telling(width, places, count, places), True)


class TestBitRows(unittest.TestCase):
    def test_by_rule(self):
        chance = random.Random(52)
        for width in [1, 3, 8, 40, 64] * 6:
            code = random_code(chance, width)
            order, numbers = good_order(width, code[1])
            wanted = [[product_of(order[:k], x) // 2 ** numbers[k] % 2 for x in code[1]]
                      for k in range(item_count(*code))]
            self.assertEqual(bit_rows(*code), wanted)

    def test_codewords_of_highest_bits(self):
        for width, places, count in CODES:
            half = 2 ** (width - 1)
            rows = bit_rows(width, places, count)
            sums = {
                tuple(sum(taken * row[at] for taken, row in zip(chosen, rows)) % 2 * half for at in range(len(places)))
                for chosen in product([0, 1], repeat=len(rows))
            }
            light = {words for words in all_codewords(width, places, count) if set(words) <= {0, half}}
            self.assertEqual(sums, light)
            self.assertEqual(len(sums), 2 ** len(rows))

    def test_bases_have_odd_determinants(self):
        for width, places, count in CODES:
            rows = bit_rows(width, places, count)
            for part in combinations(range(len(places)), len(rows)):
                chosen = [[row[at] for at in part] for row in rows]
                base = [places[at] for at in part]
                self.assertIs(is_base(width, places, count, base), odd_determinant(chosen))

    def test_edges(self):
        self.assertEqual(bit_rows(3, FOUR, 0), [])
        self.assertEqual(bit_rows(64, [2 ** 64 - 1], GREATEST), [[1]])
        self.assertEqual(bit_rows(1, [0, 1], 2), [[1, 1], [0, 1]])
        self.assertEqual(bit_rows(64, [0, 2 ** 63], 2), [[1, 1], [0, 1]])


class TestBases(unittest.TestCase):
    def test_listed(self):
        for width, places, count in CODES:
            many = item_count(width, places, count)
            bases = [part for part in told_by_listing(width, places, count) if len(part) == many]
            for part in parts_of(places):
                self.assertIs(is_base(width, places, count, part), part in bases)
                within = [base for base in bases if set(base) <= set(part)]
                self.assertEqual(first_base(width, places, count, part), min(within) if within else None)
                self.assertIs(len(within) > 0, is_telling(width, places, count, part))

    def test_larger_codes(self):
        chance = random.Random(53)
        for width in [4, 8, 20, 64] * 6:
            code = random_code(chance, width)
            part = sorted(chance.sample(code[1], chance.randint(0, len(code[1]))))
            many = item_count(*code)
            first = [list(one) for one in combinations(part, many) if is_base(*code, list(one))][:1]
            self.assertEqual(first_base(*code, part), first[0] if first else None)

    def test_edges(self):
        last = 2 ** 64 - 1
        self.assertEqual(first_base(64, [last], 1, [last]), [last])
        self.assertIsNone(first_base(64, [last], 1, []))
        self.assertEqual(first_base(64, [last], 0, [last]), [])
        self.assertEqual(first_base(1, [0, 1], GREATEST, [0, 1]), [0, 1])
        self.assertEqual(first_base(64, list(range(64)), 64, list(range(64))), list(range(64)))
        self.assertEqual(first_base(64, list(range(64)), 3, list(range(7, 64))), [7, 8, 9])
        self.assertIs(is_base(3, FOUR, 0, []), True)
        self.assertIs(is_base(3, FOUR, 0, [0]), False)

    def test_any_value(self):
        wrongs = ODD + [0, [0, 1, 2], [1, 0], [2, 4], [0, 2], [1], [1, 1], [1, 3], (0, 1), [1, 8], [True, 2], [1, "4"],
                        [1, None], [1, [4]], [1, Unfit()], {0: 0, 1: 1}, [-1, 0], [1, GREATEST]]
        check_judged(self, is_base, [3, FOUR, 2], [[0, 1], [1, 2], [1, 4]], wrongs)


class TestWrong(unittest.TestCase):
    CODE = [(InvalidWidth, NO_WIDTHS), (InvalidPlaces, no_places(3)), (InvalidNumber, NO_COUNTS)]

    def test_parts(self):
        no_part = no_parts(3, FOUR)
        for function in [is_telling, hidden, first_base]:
            check_refusals(self, function, [3, FOUR, 2, [1, 4]], self.CODE + [(InvalidPlaces, no_part)])
            check_refusals(self, function, [3, FOUR, 0, []], self.CODE + [(InvalidPlaces, no_part)])

    def test_codes(self):
        check_refusals(self, bit_rows, [3, FOUR, 2], self.CODE)
        for value in [[1, 4], None]:
            check_refusals(self, is_base, [3, FOUR, 2, value], self.CODE)


if __name__ == "__main__":
    unittest.main()
