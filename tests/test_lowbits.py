import random
import unittest

from anyplaces.distance import least_lost
from anyplaces.errors import InvalidNumber, InvalidPlaces, InvalidWidth, InvalidWords
from anyplaces.lowbits import mendable_bits, mended_bits
from anyplaces.mending import mendable, mended
from anyplaces.orders import good_order
from anyplaces.sizes import codeword_at, how_many_codewords
from tests.plain import all_codewords, least_unlike, unlike
from tests.test_codes import random_code
from tests.test_mending import EIGHT, SPREAD, some_words, spoiled
from tests.wrong import GREATEST, NO_COUNTS, NO_WIDTHS, check_refusals, no_places, no_words

LAST = 2 ** 64 - 1
STRANGE = [0, 1, 4, 2, 0, 1, 4, 1]


def lows_of(listed, j):
    """The lowest j bits of all codewords, each list once."""
    return sorted({tuple(word % 2 ** j for word in words) for words in listed})


def mended_by_listing(lows, leasts, words):
    """lows and leasts: for j from 1 on, the lowest bits of the codewords, and how unlike two of them are at least."""
    found = None
    for j, (listed, least) in enumerate(zip(lows, leasts), 1):
        low = [word % 2 ** j for word in words]
        near = [list(one) for one in listed if least is None or 2 * unlike(one, low) < least]
        if near:
            # fewer bits are always near, too
            assert j == 1 or found is not None and found[0] == j - 1, (listed, words)
            found = (j, near[0])
    return found


class TestExamples(unittest.TestCase):
    def test_low_bits(self):
        self.assertEqual(
            [mendable_bits(3, EIGHT, 4), mended(3, EIGHT, 4, STRANGE), mended_bits(3, EIGHT, 4, STRANGE)],
            [[1, 0, 0], None, (1, [0, 1, 0, 1, 0, 1, 0, 1])])


class TestListed(unittest.TestCase):
    def test_small_codes(self):
        chance = random.Random(121)
        for code in SPREAD:
            width, places, _ = code
            listed = sorted(all_codewords(*code))
            lows = [lows_of(listed, j) for j in range(1, width + 1)]
            leasts = [least_unlike(some) for some in lows]
            wanted = [len(places) if least is None else (least - 1) // 2 for least in leasts]
            self.assertEqual(mendable_bits(*code), wanted)
            for words in some_words(chance, code, listed, 15):
                self.assertEqual(mended_bits(*code, words), mended_by_listing(lows, leasts, words))

    def test_eight_neighbours(self):
        # 4 items of 3, 3, 2 and 2 bits
        listed = [codeword_at(3, EIGHT, 4, number) for number in range(1024)]
        lows = [lows_of(listed, j) for j in [1, 2, 3]]
        # sums of codewords are codewords: the least number of words that are not 0
        leasts = [min(len([word for word in one if word]) for one in some if any(one)) for some in lows]
        self.assertEqual([(least - 1) // 2 for least in leasts], mendable_bits(3, EIGHT, 4))
        chance = random.Random(122)
        for words in some_words(chance, (3, EIGHT, 4), listed, 60) + [STRANGE]:
            self.assertEqual(mended_bits(3, EIGHT, 4, words), mended_by_listing(lows, leasts, words))


class TestLargerCodes(unittest.TestCase):
    def test_mendable(self):
        chance = random.Random(123)
        codes = [random_code(chance, width) for width in [1, 2, 4, 8, 20, 64] * 6]
        for code in codes + [(64, list(range(64)), 40), (64, [k * 2 ** 58 for k in range(64)], 9), (7, list(range(90)), 30)]:
            width, places, count = code
            numbers = good_order(width, places)[1][:count]
            told = []
            for j in range(1, width + 1):
                least = least_lost(places, len([number for number in numbers if number < j]))
                told.append(len(places) if least is None else (least - 1) // 2)
            self.assertEqual(mendable_bits(*code), told)
            self.assertEqual(told[-1], mendable(*code))
            self.assertEqual(told, sorted(told, reverse=True))

    def test_mended(self):
        chance = random.Random(124)
        codes = [(64, list(range(64)), count) for count in [1, 3, 9, 33]] + [(6, list(range(40)), 12)]
        for _ in range(12):
            codes.append((chance.choice([8, 20]), sorted(chance.sample(range(32), 12)), chance.choice([1, 2, 4, 6])))
        for code in codes:
            width = code[0]
            words = codeword_at(*code, chance.randrange(how_many_codewords(*code)))
            self.assertEqual(mended_bits(*code, words), (width, words))
            mendables = mendable_bits(*code)
            for j in sorted({1, 2, width // 2, width}):
                wrong, _ = spoiled(chance, width, words, mendables[j - 1])
                bits, lows = mended_bits(*code, wrong)
                self.assertGreaterEqual(bits, j)
                self.assertEqual([low % 2 ** j for low in lows], [word % 2 ** j for word in words])
                if bits == width:
                    self.assertEqual(mended(*code, wrong), lows)
                else:
                    self.assertIsNone(mended(*code, wrong))

    def test_edges(self):
        self.assertEqual(mendable_bits(1, [0, 1], 0), [2])
        self.assertEqual(mendable_bits(1, [0, 1], GREATEST), [0])
        self.assertEqual(mendable_bits(64, [LAST], 1), [0] * 64)
        self.assertEqual(mendable_bits(64, [LAST], 0), [1] * 64)
        self.assertEqual(mended_bits(64, [LAST], 0, [77]), (64, [0]))
        self.assertEqual(mended_bits(64, [LAST], 1, [77]), (64, [77]))
        self.assertEqual(mended_bits(1, [0, 1], 1, [1, 1]), (1, [1, 1]))
        self.assertIsNone(mended_bits(1, [0, 1], 1, [0, 1]))
        # two words that must be the same: their lowest bits may still be
        self.assertEqual(mended_bits(3, [0, 1], 1, [5, 1]), (2, [1, 1]))
        self.assertEqual(mended_bits(3, [0, 1], 1, [5, 7]), (1, [1, 1]))
        self.assertIsNone(mended_bits(3, [0, 1], 1, [5, 6]))
        # the lowest bits of the words at 0 and 4 are the same, the highest one is free
        self.assertEqual(mendable_bits(3, [0, 4], 2), [0, 0, 0])
        self.assertEqual(mended_bits(3, [0, 4], 2, [1, 7]), (1, [1, 1]))
        self.assertEqual(mended_bits(3, [0, 4], 2, [1, 5]), (3, [1, 5]))
        self.assertEqual(mended_bits(3, [0, 4], 2, [2, 4]), (1, [0, 0]))


class TestWrong(unittest.TestCase):
    CODE = [(InvalidWidth, NO_WIDTHS), (InvalidPlaces, no_places(3)), (InvalidNumber, NO_COUNTS)]

    def test_all(self):
        check_refusals(self, mendable_bits, [3, EIGHT, 4], self.CODE)
        for count in [0, 4]:
            wrong = self.CODE + [(InvalidWords, no_words(3, 8) + [[]])]
            check_refusals(self, mended_bits, [3, EIGHT, count, STRANGE], wrong)


if __name__ == "__main__":
    unittest.main()
