import random
import unittest
from itertools import product

from anyplaces.codes import codeword, coefficients_of, is_codeword, items_of, misfit
from anyplaces.errors import InvalidItems, InvalidNumber, InvalidPlaces, InvalidWidth, InvalidWords, Unfit
from anyplaces.kinds import word_at, words_at
from anyplaces.orders import good_order
from tests.plain import all_codewords, all_words, product_of
from tests.wrong import (
    GREATEST, NO_COUNTS, NO_WIDTHS, ODD, check_judged, check_refusals, no_places, no_words,
)

FOUR = [0, 1, 2, 3]

# codes whose codewords, and whose lists of words at all, can be listed
SMALL = [
    (1, [0], 1), (1, [1], 0), (1, [0, 1], 1), (1, [0, 1], 2), (1, [0, 1], 7), (2, [0, 1, 2, 3], 2), (2, [0, 1, 2, 3], 3),
    (2, [0, 1, 2, 3], 4), (2, [0, 2, 3], 2), (2, [0, 2], 2), (2, [1, 3], 2), (2, [1, 2, 3], GREATEST), (3, [0, 4], 2),
    (3, [0, 2, 4], 3), (3, [0, 4, 6], 2), (3, [1, 3, 7], 3), (3, [2, 5, 6], 3), (3, [0, 1, 4], 2), (3, [5], 3),
]


def number_of_items(width, places, count):
    return len([number for number in good_order(width, places)[1][:count] if number < width])


def bounds_of(width, places, count):
    return [2 ** (width - number) for number in good_order(width, places)[1][:count] if number < width]


def sum_of(width, places, items):
    order = good_order(width, places)[0]
    return [sum(d * product_of(order[:k], place) for k, d in enumerate(items)) % 2 ** width for place in places]


def random_code(chance, width):
    many = chance.randint(1, 12)
    shift = chance.choice([0, 0, 1, 5]) if width > 8 else 0
    places = sorted({chance.getrandbits(width - shift) << shift for _ in range(many)})
    return width, places, chance.choice([0, 1, 2, 5, len(places), len(places) + 3])


class TestExamples(unittest.TestCase):
    def test_words_and_items(self):
        self.assertEqual(
            [codeword(3, FOUR, 3, [1, 2, 3]), items_of(3, FOUR, 3, [1, 3, 3, 1]), is_codeword(3, FOUR, 3, [1, 3, 3, 2]),
             misfit(3, FOUR, 3, [1, 3, 3, 2]), misfit(3, FOUR, 3, [1, 3, 2, 0])],
            [[1, 3, 3, 1], [1, 2, 3], False, 3, 2])

    def test_coefficients(self):
        self.assertEqual(
            [coefficients_of(3, FOUR, 3, [1, 2, 3]), coefficients_of(3, FOUR, 3, [0, 0, 0]),
             coefficients_of(2, [1, 3], 2, [1, 1])],
            [[1, -1, 3], [], [0, 1]])


class TestListed(unittest.TestCase):
    def test_items_and_codewords(self):
        for width, places, count in SMALL:
            listed = all_codewords(width, places, count)
            made = {}
            for items in product(*[range(end) for end in bounds_of(width, places, count)]):
                words = codeword(width, places, count, list(items))
                self.assertEqual(words, sum_of(width, places, items))
                self.assertEqual(items_of(width, places, count, words), list(items))
                made[tuple(words)] = True
            # each codeword comes of just one items list
            self.assertEqual(set(made), listed)
            self.assertEqual(len(made), len(list(product(*[range(end) for end in bounds_of(width, places, count)]))))

    def test_any_words(self):
        for width, places, count in SMALL:
            listed = all_codewords(width, places, count)
            order = good_order(width, places)[0]
            begun = [{tuple(words[places.index(place)] for place in order[:k]) for words in listed}
                     for k in range(len(places) + 1)]
            for words in all_words(width, places):
                right = words in listed
                self.assertIs(is_codeword(width, places, count, list(words)), right)
                self.assertIs(items_of(width, places, count, list(words)) is not None, right)
                told = tuple(words[places.index(place)] for place in order)
                ends = [k for k in range(1, len(places) + 1) if told[:k] not in begun[k]]
                wanted = order[ends[0] - 1] if ends else None
                self.assertEqual(misfit(width, places, count, list(words)), wanted)

    def test_count_none(self):
        self.assertEqual(codeword(3, FOUR, 0, []), [0, 0, 0, 0])
        self.assertEqual(items_of(3, FOUR, 0, [0, 0, 0, 0]), [])
        self.assertIsNone(items_of(3, FOUR, 0, [0, 0, 1, 0]))
        self.assertEqual(misfit(3, FOUR, 0, [0, 0, 1, 0]), 2)
        self.assertIsNone(misfit(3, FOUR, 0, [0, 0, 0, 0]))
        self.assertEqual(coefficients_of(3, FOUR, 0, []), [])
        self.assertIs(is_codeword(3, FOUR, 0, [0, 0, 0, 4]), False)


class TestThereAndBack(unittest.TestCase):
    def test_items_and_coefficients(self):
        chance = random.Random(31)
        for width in [1, 2, 5, 8, 17, 63, 64] * 6:
            code = random_code(chance, width)
            bounds = bounds_of(*code)
            for items in [[chance.randrange(end) for end in bounds], [end - 1 for end in bounds], [0] * len(bounds)]:
                words = codeword(*code, items)
                self.assertEqual(words, sum_of(code[0], code[1], items))
                self.assertEqual(items_of(*code, words), items)
                self.assertIs(is_codeword(*code, words), True)
                self.assertIsNone(misfit(*code, words))
                coefficients = coefficients_of(*code, items)
                self.assertEqual(words_at(width, coefficients, code[1]), words)
                self.assertTrue(coefficients == [] or coefficients[-1] != 0)
                self.assertLessEqual(len(coefficients), len(bounds))
                order = good_order(width, code[1])[0]
                for number in [-5, 0, 3, 2 ** 70]:
                    wanted = sum(d * product_of(order[:k], number) for k, d in enumerate(items))
                    self.assertEqual(sum(a * number ** i for i, a in enumerate(coefficients)), wanted)

    def test_every_polynomial(self):
        chance = random.Random(32)
        for width in [1, 4, 16, 64] * 5:
            _, places, _ = random_code(chance, width)
            for many in [0, 1, 3, 8]:
                coefficients = [chance.randint(-GREATEST, GREATEST) for _ in range(many)]
                words = words_at(width, coefficients, places)
                self.assertTrue(is_codeword(width, places, many, words))
                self.assertTrue(is_codeword(width, places, many + 2, words))
                items = items_of(width, places, many, words)
                mine = coefficients_of(width, places, many, items)
                self.assertEqual([word_at(width, mine, place) for place in places], words)

    def test_one_word_changed(self):
        chance = random.Random(33)
        for _ in range(40):
            width, places, count = random_code(chance, 8)
            words = codeword(width, places, count, [chance.randrange(end) for end in bounds_of(width, places, count)])
            at = chance.randrange(len(places))
            changed = list(words)
            changed[at] = (changed[at] + 1) % 256
            place = misfit(width, places, count, changed)
            self.assertIs(place is None, is_codeword(width, places, count, changed))
            if place is not None:
                order = good_order(width, places)[0]
                self.assertGreaterEqual(order.index(place), order.index(places[at]))


class TestEdges(unittest.TestCase):
    def test_width_one_and_greatest(self):
        self.assertEqual(codeword(1, [0, 1], 2, [1, 1]), [1, 0])
        self.assertEqual(codeword(1, [1], 5, [1]), [1])
        last = 2 ** 64 - 1
        self.assertEqual(codeword(64, [last], 1, [last]), [last])
        self.assertEqual(codeword(64, [0, last], 2, [last, last]), [last, 0])
        self.assertEqual(codeword(64, [0, 2 ** 63], 2, [5, 1]), [5, 2 ** 63 + 5])
        self.assertEqual(items_of(64, [0, 2 ** 63], 2, [5, 2 ** 63 + 5]), [5, 1])
        self.assertEqual(misfit(64, [0, 2 ** 63], 2, [5, 6]), 2 ** 63)

    def test_places_that_are_no_items(self):
        steps = [k * 2 ** 58 for k in range(64)]
        self.assertEqual(number_of_items(64, steps, 64), 2)
        words = codeword(64, steps, 64, [7, 2 ** 6 - 1])
        self.assertEqual(words, [(7 + 63 * place) % 2 ** 64 for place in steps])
        self.assertEqual(items_of(64, steps, GREATEST, words), [7, 63])
        words[5] ^= 2 ** 63
        self.assertEqual(misfit(64, steps, 64, words), steps[5])

    def test_good_order_not_that_of_places(self):
        # the good order is 0, 5, 2, 9: words at 2 are judged behind those at 5
        self.assertEqual(good_order(4, [0, 2, 5, 9])[0], [0, 5, 2, 9])
        self.assertEqual(codeword(4, [0, 2, 5, 9], 2, [1, 1]), [1, 3, 6, 10])
        self.assertEqual(misfit(4, [0, 2, 5, 9], 2, [1, 2, 6, 10]), 2)
        self.assertEqual(misfit(4, [0, 2, 5, 9], 2, [1, 2, 6, 11]), 2)
        self.assertEqual(misfit(4, [0, 2, 5, 9], 2, [1, 3, 6, 11]), 9)


class TestWrong(unittest.TestCase):
    CODE = [(InvalidWidth, NO_WIDTHS), (InvalidPlaces, no_places(3)), (InvalidNumber, NO_COUNTS)]

    def test_items(self):
        # items at these places: below 8, 8 and 4
        wrong_items = ODD + [
            [], 0, [0, 0], [0, 0, 0, 0], (0, 0, 0), [8, 0, 0], [0, 8, 0], [0, 0, 4], [-1, 0, 0], [0, 0, -1],
            [True, 0, 0], [0, 0, False], [0, None, 0], [0, "0", 0], [0, [0], 0], [0, (0,), 0], [0, 0, Unfit()],
            [GREATEST, 0, 0], {0: 0, 1: 0, 2: 0}, "000",
        ]
        for function in [codeword, coefficients_of]:
            check_refusals(self, function, [3, [0, 1, 2, 4], 3, [1, 2, 3]], self.CODE + [(InvalidItems, wrong_items)])
            function(3, [0, 1, 2, 4], 3, [7, 7, 3])
            check_refusals(self, function, [3, [0, 1, 2, 4], 0, []], self.CODE + [(InvalidItems, [[0], None, ()])])
            # one place is no item at this width: two items are left
            check_refusals(self, function, [1, [0, 1], 9, [1, 1]], [
                (InvalidWidth, NO_WIDTHS), (InvalidPlaces, no_places(1)), (InvalidNumber, NO_COUNTS),
                (InvalidItems, [[1], [1, 1, 0], [2, 0], [0, 2]])])

    def test_words(self):
        wrong = self.CODE + [(InvalidWords, no_words(3, 3) + [[]])]
        for function in [items_of, misfit]:
            check_refusals(self, function, [3, [0, 5, 6], 2, [1, 2, 3]], wrong)

    def test_any_value(self):
        code = [3, [0, 1, 2, 4], 2]
        check_judged(self, is_codeword, code, [[0, 0, 0, 0], [1, 2, 3, 5], [5, 4, 3, 1]], no_words(3, 4) + [
            [], [1, 2, 3, 4], [0, True, 2, 4], [0, 1, 2, 4][:3], (0, 1, 2, 4), [0, 1, 2, 12], [-8, 0, 0, 0]])
        for value in [[0, 0, 0, 0], None]:
            check_refusals(self, is_codeword, code + [value], self.CODE)


if __name__ == "__main__":
    unittest.main()
