import random
import unittest

from anyplaces.codes import items_of
from anyplaces.errors import InvalidNumber, InvalidPlaces, InvalidWidth, InvalidWords
from anyplaces.orders import good_order
from anyplaces.sizes import (
    codeword_at, codeword_number, full_count, how_many_codewords, item_count, item_widths, width_for,
)
from tests.plain import all_codewords, lists_of_places
from tests.test_codes import SMALL, random_code
from tests.wrong import GREATEST, NO_COUNTS, NO_WIDTHS, check_refusals, no_places, no_words

FOUR = [0, 1, 2, 3]
LAST = 2 ** 64 - 1


class TestExamples(unittest.TestCase):
    def test_sizes(self):
        self.assertEqual(
            [item_count(3, FOUR, 3), how_many_codewords(3, FOUR, 3), how_many_codewords(3, [1, 2, 4], 2),
             full_count(2, [0, 2, 3]), item_count(1, [0, 1], 5)],
            [3, 256, 64, 3, 2])

    def test_numbers_and_widths(self):
        self.assertEqual(
            [codeword_number(3, FOUR, 3, [1, 3, 3, 1]), codeword_at(3, FOUR, 3, 43), item_widths(FOUR, 4),
             width_for(FOUR, 4, 10), width_for([0], 0, 1)],
            [43, [1, 3, 3, 1], [1, 1, 2, 2], 3, None])


class TestListed(unittest.TestCase):
    def test_numbers(self):
        for width, places, count in SMALL:
            words = [list(one) for one in all_codewords(width, places, count)]
            words = sorted(words, key=lambda one: items_of(width, places, count, one))
            self.assertEqual(how_many_codewords(width, places, count), len(words))
            self.assertEqual(item_count(width, places, count), len(items_of(width, places, count, words[0])))
            for number, one in enumerate(words):
                self.assertEqual(codeword_at(width, places, count, number), one)
                self.assertEqual(codeword_number(width, places, count, one), number)

    def test_full_count(self):
        for width, most in [(1, 2), (2, 4), (3, 3)]:
            for places in lists_of_places(width, range(1, most + 1)):
                if width * (len(places) + 1) > 10:
                    continue
                listed = [all_codewords(width, places, count) for count in range(len(places) + 1)]
                full = [count for count in range(len(places) + 1) if listed[count] == listed[-1]][0]
                self.assertEqual(full_count(width, places), full)
                for count in [len(places), full, full + 1, GREATEST]:
                    self.assertEqual(how_many_codewords(width, places, count), len(listed[-1]))
                self.assertLess(how_many_codewords(width, places, full - 1), len(listed[-1]))


class TestNumbers(unittest.TestCase):
    def test_there_and_back(self):
        chance = random.Random(41)
        for width in [1, 3, 8, 33, 64] * 6:
            code = random_code(chance, width)
            total = how_many_codewords(*code)
            for number in {0, total - 1, chance.randrange(total), total // 2}:
                words = codeword_at(*code, number)
                self.assertEqual(codeword_number(*code, words), number)
                if number + 1 < total:
                    self.assertLess(items_of(*code, words), items_of(*code, codeword_at(*code, number + 1)))

    def test_first_and_last(self):
        self.assertEqual(codeword_at(3, FOUR, 3, 0), [0, 0, 0, 0])
        self.assertEqual(items_of(3, FOUR, 3, codeword_at(3, FOUR, 3, 255)), [7, 7, 3])
        self.assertEqual(codeword_at(3, FOUR, 0, 0), [0, 0, 0, 0])
        self.assertEqual(codeword_number(3, FOUR, 0, [0, 0, 0, 0]), 0)
        self.assertEqual(codeword_at(64, [LAST], GREATEST, LAST), [LAST])
        self.assertEqual(codeword_at(1, [1], 1, 1), [1])
        neighbours = list(range(64))
        total = how_many_codewords(64, neighbours, 64)
        self.assertEqual(codeword_number(64, neighbours, 64, codeword_at(64, neighbours, 64, total - 1)), total - 1)


class TestCounts(unittest.TestCase):
    def test_plain_count(self):
        chance = random.Random(42)
        for width in [1, 2, 6, 20, 64] * 5:
            code = random_code(chance, width)
            _, places, count = code
            numbers = [number for number in good_order(width, places)[1][:count] if number < width]
            self.assertEqual(item_count(*code), len(numbers))
            self.assertEqual(how_many_codewords(*code), 2 ** sum(width - number for number in numbers))
            full = len([number for number in good_order(width, places)[1] if number < width])
            self.assertEqual(full_count(width, places), full)

    def test_edges(self):
        self.assertEqual(item_count(3, FOUR, 0), 0)
        self.assertEqual(how_many_codewords(3, FOUR, 0), 1)
        self.assertEqual(item_count(3, FOUR, GREATEST), 4)
        self.assertEqual(how_many_codewords(64, [LAST], 1), 2 ** 64)
        self.assertEqual(how_many_codewords(1, [0, 1], 2), 4)
        self.assertEqual(full_count(64, [k * 2 ** 58 for k in range(64)]), 2)
        self.assertEqual(full_count(64, list(range(64))), 64)
        self.assertEqual(full_count(1, [1]), 1)
        # of the numbers 0, 2, 5, 7 the last two are not below 5
        self.assertEqual(item_count(5, [0, 4, 8, 12], 4), 2)
        self.assertEqual(item_count(6, [0, 4, 8, 12], 4), 3)


class TestWidths(unittest.TestCase):
    def test_at_every_width(self):
        chance = random.Random(43)
        for size in [1, 3, 6, 20, 64] * 4:
            _, places, count = random_code(chance, size)
            widths = item_widths(places, count)
            self.assertEqual(widths, [number + 1 for number in good_order(64, places)[1][:count]])
            first = max(1, places[-1].bit_length())
            for width in range(first, 65):
                many = item_count(width, places, count)
                self.assertEqual(many, len([least for least in widths if least <= width]))
                if width > first:
                    fewer = how_many_codewords(width - 1, places, count)
                    self.assertEqual(how_many_codewords(width, places, count), fewer * 2 ** many)
            for many in [0, 1, 2, 17, 64, 65, 200, 64 * 12, GREATEST]:
                enough = [width for width in range(first, 65) if how_many_codewords(width, places, count) >= 2 ** many] \
                    if many < 10 ** 6 else []
                self.assertEqual(width_for(places, count, many), enough[0] if enough else None)

    def test_edges(self):
        self.assertEqual(item_widths([LAST], 0), [])
        self.assertEqual(item_widths([LAST], GREATEST), [1])
        self.assertEqual(item_widths([0, 2 ** 63], 2), [1, 64])
        self.assertEqual(item_widths([0, 2 ** 62, 2 ** 63], 3), [1, 63, 126])
        self.assertEqual(width_for([0], 0, 0), 1)
        self.assertEqual(width_for([0], 1, 0), 1)
        self.assertEqual(width_for([0], 1, 1), 1)
        self.assertEqual(width_for([0], 1, 64), 64)
        self.assertIsNone(width_for([0], 1, 65))
        self.assertEqual(width_for([LAST], 1, 0), 64)
        self.assertEqual(width_for([0, 1, 4], 0, 0), 3)
        self.assertEqual(width_for([3], 1, 1), 2)
        self.assertEqual(width_for([4], 1, 1), 3)
        self.assertIsNone(width_for(FOUR, 4, GREATEST))


class TestWrong(unittest.TestCase):
    CODE = [(InvalidWidth, NO_WIDTHS), (InvalidPlaces, no_places(3)), (InvalidNumber, NO_COUNTS)]

    def test_codes(self):
        check_refusals(self, item_count, [3, [0, 5], 2], self.CODE)
        check_refusals(self, how_many_codewords, [3, [0, 5], 2], self.CODE)
        check_refusals(self, full_count, [3, [0, 5]], self.CODE[:2])

    def test_numbers(self):
        no_codewords = no_words(3, 4) + [[], [1, 3, 3, 2], [0, 0, 0, 1], [1, 0, 0, 0], [0, 0, 0, 8]]
        check_refusals(self, codeword_number, [3, FOUR, 3, [1, 3, 3, 1]], self.CODE + [(InvalidWords, no_codewords)])
        check_refusals(self, codeword_number, [3, FOUR, 0, [0] * 4], self.CODE + [(InvalidWords, [[0, 0, 0, 4], [1] * 4])])
        no_numbers = NO_COUNTS + [256, 257, GREATEST]
        check_refusals(self, codeword_at, [3, FOUR, 3, 255], self.CODE + [(InvalidNumber, no_numbers)])
        check_refusals(self, codeword_at, [3, FOUR, 0, 0], self.CODE + [(InvalidNumber, NO_COUNTS + [1, 2])])

    def test_widths(self):
        wrong = [(InvalidPlaces, no_places(64)), (InvalidNumber, NO_COUNTS), (InvalidNumber, NO_COUNTS)]
        check_refusals(self, item_widths, [[0, 5], 2], wrong[:2])
        check_refusals(self, width_for, [[0, 5], 2, 3], wrong)


if __name__ == "__main__":
    unittest.main()
