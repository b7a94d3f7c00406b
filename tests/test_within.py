import random
import unittest
from itertools import product

from anyplaces.codes import codeword, is_codeword, items_of
from anyplaces.errors import InvalidNumber, InvalidPlaces, InvalidWidth, InvalidWords
from anyplaces.kinds import word_at, words_at
from anyplaces.orders import good_order
from anyplaces.sizes import codeword_at, full_count, how_many_codewords, item_count
from anyplaces.within import first_above, how_many_above, how_many_stretched, least_count, stretched_coefficients
from tests.plain import all_codewords, all_words, product_of, worth
from tests.test_codes import bounds_of, random_code
from tests.test_telling import CODES
from tests.wrong import GREATEST, NO_COUNTS, NO_WIDTHS, check_refusals, no_places, no_words, refused

FOUR = [0, 1, 2, 3]
LAST = 2 ** 64 - 1


def in_order(code):
    """All codewords in the order of their items lists."""
    return [codeword_at(*code, number) for number in range(how_many_codewords(*code))]


def lows(bits, words):
    return [word % 2 ** bits for word in words]


def least_by_listing(width, places, words):
    """The least count whose code has the words, by listing all codewords of each count."""
    for count in range(len(places) + 1):
        if tuple(words) in all_codewords(width, places, count):
            return count
    return None


def stretched_by_listing(code, bits):
    """The words that all polynomials with few coefficients have at the stretched places."""
    width, places, count = code
    return {
        tuple(worth(width, coefficients, place * 2 ** bits) for place in places)
        for coefficients in product(range(2 ** width), repeat=min(count, len(places)))
    }


def stretched_sum(code, bits, items, number):
    """What the sum of point 55 is at a whole number, as it stands."""
    order = [place * 2 ** bits for place in good_order(*code[:2])[0]]
    return sum(d // 2 ** (bits * k) * product_of(order[:k], number) for k, d in enumerate(items))


class TestExamples(unittest.TestCase):
    def test_counts(self):
        self.assertEqual(
            [least_count(3, FOUR, [1, 3, 3, 1]), least_count(3, FOUR, [0, 0, 0, 0]), least_count(3, FOUR, [1, 3, 3, 2])],
            [3, 0, None])

    def test_above(self):
        self.assertEqual(
            [how_many_above(3, FOUR, 3, 1, [1, 1, 1, 1]), how_many_above(3, FOUR, 3, 1, [0, 0, 1, 0]),
             first_above(3, FOUR, 3, 1, [0, 1, 0, 1])],
            [64, 0, [0, 1, 2, 3]])

    def test_stretched(self):
        self.assertEqual(
            [stretched_coefficients(3, FOUR, 3, 1, [0, 2, 4, 6]), stretched_coefficients(3, FOUR, 3, 1, [0, 1, 2, 3]),
             how_many_stretched(3, FOUR, 3, 1)],
            [[0, 1], None, 32])


class TestLeastCount(unittest.TestCase):
    def test_listed(self):
        told = set()
        for width, places in [(1, [0]), (1, [0, 1]), (2, [0, 1, 2]), (2, [0, 2]), (2, [1, 2, 3]), (3, [0, 4]), (3, [1, 3]),
                              (3, [1, 3, 7]), (3, [0, 2, 6]), (2, [0, 1, 2, 3])]:
            for words in all_words(width, places):
                least = least_by_listing(width, places, words)
                told.add(least)
                self.assertEqual(least_count(width, places, list(words)), least)
        self.assertEqual(told, {None, 0, 1, 2, 3, 4})

    def test_larger_codes(self):
        chance = random.Random(151)
        for width in [1, 2, 4, 8, 20, 64] * 8:
            code = random_code(chance, width)
            width, places, _ = code
            words = codeword_at(*code, chance.randrange(how_many_codewords(*code)))
            least = least_count(width, places, words)
            self.assertLessEqual(least, item_count(*code))
            self.assertIs(is_codeword(width, places, least, words), True)
            if least > 0:
                self.assertIs(is_codeword(width, places, least - 1, words), False)
            wrong = [word ^ chance.getrandbits(width) for word in words]
            self.assertIs(least_count(width, places, wrong) is None, not is_codeword(width, places, GREATEST, wrong))

    def test_edges(self):
        self.assertEqual(least_count(64, [LAST], [LAST]), 1)
        self.assertEqual(least_count(64, [LAST], [0]), 0)
        self.assertEqual(least_count(64, [0, 2 ** 63], [0, 2 ** 63]), 2)
        self.assertIsNone(least_count(64, [0, 2 ** 63], [0, 2 ** 62]))
        neighbours = list(range(64))
        self.assertEqual(least_count(64, neighbours, [0] * 63 + [2 ** 63]), 64)
        self.assertIsNone(least_count(64, neighbours, [0] * 63 + [2 ** 56]))
        self.assertEqual(least_count(64, neighbours, [0] * 63 + [2 ** 57]), 64)
        self.assertEqual(least_count(64, neighbours, [7] * 64), 1)
        self.assertEqual(least_count(6, neighbours, neighbours), 2)
        self.assertEqual(full_count(6, neighbours), 8)
        self.assertEqual(least_count(6, neighbours, codeword(6, neighbours, 8, [0] * 7 + [1])), 8)


class TestAbove(unittest.TestCase):
    def check(self, code, bits, words, listed):
        above = [one for one in listed if lows(bits, one) == words]
        self.assertEqual(how_many_above(*code, bits, words), len(above))
        self.assertEqual(first_above(*code, bits, words), above[0] if above else None)

    def test_listed(self):
        for code in CODES:
            width, places, _ = code
            listed = in_order(code)
            for bits in range(1, width + 1):
                if bits * len(places) <= 8:
                    for words in all_words(bits, places):
                        self.check(code, bits, list(words), listed)
                else:
                    for words in listed[::7]:
                        self.check(code, bits, lows(bits, words), listed)

    def test_as_many_as_multiples(self):
        for code in CODES:
            listed = in_order(code)
            for bits in range(1, code[0] + 1):
                multiples = [words for words in listed if not any(lows(bits, words))]
                for words in listed[:40]:
                    self.assertEqual(how_many_above(*code, bits, lows(bits, words)), len(multiples))

    def test_larger_codes(self):
        chance = random.Random(152)
        for width in [4, 8, 20, 64] * 10:
            code = random_code(chance, width)
            numbers = good_order(*code[:2])[1][:code[2]]
            words = codeword_at(*code, chance.randrange(how_many_codewords(*code)))
            for bits in sorted({1, 2, chance.randint(1, width), width}):
                low = lows(bits, words)
                wanted = 2 ** sum(width - max(number, bits) for number in numbers if number < width)
                self.assertEqual(how_many_above(*code, bits, low), wanted)
                first = first_above(*code, bits, low)
                self.assertIs(is_codeword(*code, first), True)
                self.assertEqual(lows(bits, first), low)
                self.assertLessEqual(items_of(*code, first), items_of(*code, words))
                # no item of the first one can be less
                for item, number in zip(items_of(*code, first), numbers):
                    self.assertLess(item, 2 ** max(0, bits - number))
                at = chance.randrange(len(low))
                wrong = list(low)
                wrong[at] ^= 1
                none = how_many_above(*code, bits, wrong) == 0
                self.assertIs(first_above(*code, bits, wrong) is None, none)
                if not none:
                    self.assertEqual(lows(bits, first_above(*code, bits, wrong)), wrong)

    def test_edges(self):
        self.assertEqual(how_many_above(64, [LAST], 1, 1, [1]), 2 ** 63)
        self.assertEqual(how_many_above(64, [LAST], 1, 64, [LAST]), 1)
        self.assertEqual(first_above(64, [LAST], GREATEST, 64, [LAST]), [LAST])
        self.assertEqual(first_above(64, [LAST], 1, 1, [1]), [1])
        self.assertEqual(how_many_above(64, [LAST], 0, 1, [0]), 1)
        self.assertEqual(how_many_above(64, [LAST], 0, 1, [1]), 0)
        self.assertEqual(first_above(64, [LAST], 0, 1, [0]), [0])
        self.assertIsNone(first_above(64, [LAST], 0, 1, [1]))
        self.assertEqual(how_many_above(1, [0, 1], 2, 1, [0, 1]), 1)
        neighbours = list(range(64))
        # above 64 bits
        self.assertEqual(how_many_above(64, neighbours, 2, 1, [0] * 64), 2 ** 126)
        self.assertEqual(how_many_above(64, neighbours, 64, 64, [0] * 64), 1)
        self.assertEqual(first_above(64, neighbours, 64, 1, [0, 1] * 32), neighbours)
        # items above the lowest bits are free: the word at the other place may be all that are even
        self.assertEqual(how_many_above(64, [0, 2 ** 63], 2, 1, [0, 0]), 2 ** 64)
        self.assertEqual(first_above(64, [0, 2 ** 63], 2, 63, [9, 9]), [9, 9])

    def test_whole_words(self):
        for code in CODES:
            width, places, _ = code
            for words in list(all_words(width, places))[::5]:
                there = is_codeword(*code, list(words))
                self.assertEqual(how_many_above(*code, width, list(words)), int(there))
                self.assertEqual(first_above(*code, width, list(words)), list(words) if there else None)


class TestStretched(unittest.TestCase):
    def test_listed(self):
        for code in CODES:
            width, places, count = code
            for bits in range(width + 1):
                stretched = stretched_by_listing(code, bits)
                listed = in_order(code)
                self.assertLessEqual(stretched, {tuple(words) for words in listed})
                self.assertEqual(how_many_stretched(*code, bits), len(stretched))
                for words in listed:
                    coefficients = stretched_coefficients(*code, bits, words)
                    self.assertIs(coefficients is not None, tuple(words) in stretched)
                    if coefficients is not None:
                        self.check_coefficients(code, bits, words, coefficients)

    def check_coefficients(self, code, bits, words, coefficients):
        width, places, count = code
        self.assertLessEqual(len(coefficients), min(count, len(places)))
        self.assertTrue(coefficients == [] or coefficients[-1] != 0)
        self.assertEqual([word_at(width, coefficients, place * 2 ** bits) for place in places], words)
        items = items_of(*code, words)
        for number in [-3, 0, 1, 10, 2 ** 70]:
            told = sum(a * number ** i for i, a in enumerate(coefficients))
            self.assertEqual(told, stretched_sum(code, bits, items, number))

    def test_larger_codes(self):
        chance = random.Random(153)
        for width in [4, 8, 20, 64] * 10:
            code = random_code(chance, width)
            for bits in sorted({0, 1, 2, chance.randint(0, width), width}):
                ends = bounds_of(*code)
                steps = [2 ** (bits * k) for k in range(len(ends))]
                wanted = 1
                for end, step in zip(ends, steps):
                    wanted *= max(1, end // step)
                self.assertEqual(how_many_stretched(*code, bits), wanted)
                items = [chance.randrange(end) // step * step for end, step in zip(ends, steps)]
                words = codeword(*code, items)
                self.check_coefficients(code, bits, words, stretched_coefficients(*code, bits, words))
                for k in range(1, len(items)):
                    if ends[k] > 1 and bits > 0:
                        spoiled = codeword(*code, items[:k] + [items[k] ^ 1] + items[k + 1:])
                        self.assertIsNone(stretched_coefficients(*code, bits, spoiled))

    def test_every_polynomial(self):
        # words at the stretched places, as far as these are words of the width
        chance = random.Random(154)
        for _ in range(30):
            width, bits = 64, chance.randint(0, 40)
            places = sorted({chance.getrandbits(24) for _ in range(chance.randint(1, 12))})
            coefficients = [chance.getrandbits(64) for _ in range(chance.randint(0, 8))]
            words = words_at(width, coefficients, [place << bits for place in places])
            count = len(coefficients)
            told = stretched_coefficients(width, places, count, bits, words)
            self.check_coefficients((width, places, count), bits, words, told)

    def test_edges(self):
        self.assertEqual(stretched_coefficients(64, [LAST], 1, 64, [LAST]), [LAST])
        self.assertEqual(stretched_coefficients(64, [LAST], 1, 0, [0]), [])
        self.assertEqual(stretched_coefficients(64, [LAST], 0, 64, [0]), [])
        self.assertEqual([how_many_stretched(64, [LAST], count, 64) for count in [0, 1, GREATEST]], [1, 2 ** 64, 2 ** 64])
        self.assertEqual(stretched_coefficients(64, [0, 2 ** 63], 2, 1, [5, 5]), [5])
        self.assertIsNone(stretched_coefficients(64, [0, 2 ** 63], 2, 1, [5, 2 ** 63 + 5]))
        self.assertEqual(stretched_coefficients(64, [0, 2 ** 63], 2, 0, [5, 2 ** 63 + 5]), [5, 1])
        neighbours = list(range(64))
        self.assertEqual(how_many_stretched(64, neighbours, GREATEST, 0), how_many_codewords(64, neighbours, GREATEST))
        self.assertEqual(how_many_stretched(64, neighbours, 2, 1), 2 ** (64 + 63))
        self.assertEqual(how_many_stretched(64, neighbours, 64, 64), 2 ** 64)
        # coefficients above 64 bits, and below 0
        words = words_at(64, [LAST] * 5, [place << 3 for place in neighbours])
        told = stretched_coefficients(64, neighbours, 5, 3, words)
        self.assertEqual(words_at(64, told, [place << 3 for place in neighbours]), words)
        self.assertEqual(stretched_coefficients(3, FOUR, 3, 1, [0, 0, 0, 0]), [])
        self.assertEqual(stretched_coefficients(5, FOUR, 3, 1, codeword(5, FOUR, 3, [0, 0, 4])), [0, -2, 1])


class TestWrong(unittest.TestCase):
    CODE = [(InvalidWidth, NO_WIDTHS), (InvalidPlaces, no_places(3)), (InvalidNumber, NO_COUNTS)]

    def test_least_count(self):
        check_refusals(self, least_count, [3, FOUR, [1, 3, 3, 1]], self.CODE[:2] + [(InvalidWords, no_words(3, 4) + [[]])])

    def test_above(self):
        no_bits = (InvalidNumber, NO_COUNTS + [0, 4, 64, GREATEST])
        for function in [how_many_above, first_above]:
            for bits, words in [(1, [0, 1, 0, 1]), (3, [7, 7, 7, 7])]:
                wrong = self.CODE + [no_bits, (InvalidWords, no_words(bits, 4) + [[]])]
                check_refusals(self, function, [3, FOUR, 3, bits, words], wrong)
            refused(self, function, [3, FOUR, 3, 2, words], InvalidWords, words)

    def test_stretched(self):
        no_bits = (InvalidNumber, NO_COUNTS + [4, 64, GREATEST])
        no_codewords = no_words(3, 4) + [[], [1, 3, 3, 2], [0, 0, 0, 4], [0, 2, 4], (0, 2, 4, 6)]
        for bits in [0, 1, 3]:
            check_refusals(self, how_many_stretched, [3, FOUR, 3, bits], self.CODE + [no_bits])
            wrong = self.CODE + [no_bits, (InvalidWords, no_codewords)]
            check_refusals(self, stretched_coefficients, [3, FOUR, 3, bits, [0, 2, 4, 6]], wrong)
            # a codeword, but of a greater count
            words = [1, 3, 3, 1]
            refused(self, stretched_coefficients, [3, FOUR, 2, bits, words], InvalidWords, words)


if __name__ == "__main__":
    unittest.main()
