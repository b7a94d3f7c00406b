import random
import unittest

from anyplaces.errors import InvalidItems, InvalidNumber, InvalidPlaces, InvalidWidth, InvalidWords, Unfit
from anyplaces.kinds import (
    is_known, is_places, is_width, is_word, is_words, parting_places, twos_in, word_at, words_at,
)
from tests.plain import lists_of_places, twos, worth
from tests.wrong import GREATEST, NO_WHOLES, NO_WIDTHS, ODD, check_judged, check_refusals, no_places, no_words

NO_COEFFICIENTS = ODD + [0, 1, -1, (), (0,), {0: 1}, GREATEST, [1, 2, Unfit()]]


class TestExamples(unittest.TestCase):
    def test_judging(self):
        self.assertEqual(
            [is_width(64), is_width(0), is_word(3, 7), is_word(3, 8), is_places(3, [0, 5, 7]), is_places(3, [5, 0]),
             is_places(3, []), is_places(3, [8])],
            [True, False, True, False, True, False, False, False])
        self.assertEqual(
            [is_words(3, [0, 5], [7, 7]), is_words(3, [0, 5], [7]), is_known(3, [0, 5, 7], [(0, 7), (7, 1)]),
             is_known(3, [0, 5], []), is_known(3, [0, 5], [(1, 0)])],
            [True, False, True, True, False])

    def test_words(self):
        self.assertEqual(
            [twos_in(24), twos_in(-6), twos_in(7), twos_in(0), word_at(3, [1, 2, 3], 5), word_at(3, [], 5),
             word_at(4, [0, 1], -1)],
            [3, 1, 0, None, 6, 0, 15])
        self.assertEqual(
            [words_at(3, [1, 2, 3], [0, 1, 2, 5]), parting_places(3, [0, 1, 2], [1, 6, 1], [1, 2, 3])],
            [[1, 6, 1, 6], [1, 2]])


class TestJudging(unittest.TestCase):
    def test_widths(self):
        check_judged(self, is_width, [], range(1, 65), NO_WIDTHS)

    def test_words_of_a_width(self):
        for width in range(1, 65):
            end = 2 ** width
            rights = [0, 1, end // 2, end - 1]
            check_judged(self, is_word, [width], rights, ODD + [[], [0], (0,), -1, end, end + 1, GREATEST, -GREATEST])
        check_refusals(self, is_word, [3, 5], [(InvalidWidth, NO_WIDTHS)])
        check_refusals(self, is_word, [3, None], [(InvalidWidth, NO_WIDTHS)])

    def test_places(self):
        check_judged(self, is_places, [3], lists_of_places(3, range(1, 9)), no_places(3) + [(0, 5), [7, 7]])
        check_judged(self, is_places, [1], [[0], [1], [0, 1]], no_places(1) + [[0, 1, 2], [1, 0]])
        last = 2 ** 64 - 1
        check_judged(self, is_places, [64], [[last], [0, last], list(range(64)), list(range(65))], no_places(64))
        check_refusals(self, is_places, [3, [0, 1]], [(InvalidWidth, NO_WIDTHS)])
        check_refusals(self, is_places, [3, []], [(InvalidWidth, NO_WIDTHS)])

    def test_words_at_places(self):
        places = [0, 5, 6]
        rights = [[0, 0, 0], [7, 7, 7], [1, 0, 7]]
        check_judged(self, is_words, [3, places], rights, no_words(3, 3) + [[], (0, 0, 0), [0, 8, 0], [0, -1, 0]])
        check_judged(self, is_words, [64, [2 ** 64 - 1]], [[0], [2 ** 64 - 1]], no_words(64, 1) + [[2 ** 64]])
        check_judged(self, is_words, [1, [0, 1]], [[0, 0], [1, 1]], no_words(1, 2) + [[0, 2]])
        for value in [[0, 0, 0], None]:
            check_refusals(self, is_words, [3, places, value], [(InvalidWidth, NO_WIDTHS), (InvalidPlaces, no_places(3))])

    def test_known_words(self):
        places = [0, 5, 7]
        rights = [[], [(0, 0)], [(5, 7)], [(0, 1), (7, 1)], [(0, 0), (5, 0), (7, 0)]]
        wrongs = ODD + [
            0, 1, (), ((0, 0),), {0: 0}, [0], [5], [[0, 0]], [(0,)], [(0, 0, 0)], [(1, 0)], [(0, 8)], [(0, -1)],
            [(5, 0), (0, 0)], [(0, 0), (0, 0)], [(0, 0), (0, 1)], [(False, 0)], [(0, False)], [(0, True)], [(None, 0)],
            [(0, None)], [("0", 0)], [([0], 0)], [(0, [0])], [((0,), 0)], [(Unfit(), 0)], [(0, 0), None], [(8, 0)],
            [(-1, 0)], [(0, 0), (5, 0), (7, 0), (7, 0)], [(0, 0), 5], [(0, 0), [5, 0]], [(0, GREATEST)], [(GREATEST, 0)],
        ]
        check_judged(self, is_known, [3, places], rights, wrongs)
        # 1 is a place here, and True is none
        check_judged(self, is_known, [3, [0, 1]], [[(1, 1)]], [[(True, 1)], [(1, True)]])
        for value in [[(0, 0)], None]:
            check_refusals(self, is_known, [3, places, value], [(InvalidWidth, NO_WIDTHS), (InvalidPlaces, no_places(3))])


class TestTwos(unittest.TestCase):
    def test_plain_count(self):
        for number in range(1, 2000):
            self.assertEqual(twos_in(number), twos(number))
            self.assertEqual(twos_in(-number), twos(number))

    def test_large(self):
        self.assertEqual(twos_in(2 ** 99), 99)
        self.assertEqual(twos_in(-(2 ** 99)), 99)
        self.assertEqual(twos_in(10 ** 29), 29)
        self.assertEqual(twos_in(GREATEST), 0)
        self.assertIsNone(twos_in(0))

    def test_wrong(self):
        check_refusals(self, twos_in, [1], [(InvalidNumber, NO_WHOLES)])


class TestWords(unittest.TestCase):
    def test_plain_sums(self):
        chance = random.Random(7)
        for width in [1, 2, 3, 8, 31, 63, 64]:
            for many in [0, 1, 2, 5, 12]:
                size = chance.choice([3, 1000, GREATEST])
                coefficients = [chance.randint(-size, size) for _ in range(many)]
                for number in [0, 1, -1, 2, -7, 2 ** width, 2 ** width - 1, GREATEST, -GREATEST]:
                    self.assertEqual(word_at(width, coefficients, number), worth(width, coefficients, number))
                places = sorted({chance.randrange(2 ** width) for _ in range(6)})
                words = [worth(width, coefficients, place) for place in places]
                self.assertEqual(words_at(width, coefficients, places), words)

    def test_edges(self):
        self.assertEqual(word_at(1, [1], 0), 1)
        self.assertEqual(word_at(1, [1, 1], 1), 0)
        self.assertEqual(word_at(64, [-1], 5), 2 ** 64 - 1)
        self.assertEqual(words_at(64, [0, 1], [2 ** 64 - 1]), [2 ** 64 - 1])
        self.assertEqual(words_at(5, [], [0, 9]), [0, 0])

    def test_same_rests(self):
        chance = random.Random(8)
        for _ in range(50):
            coefficients = [chance.randint(-99, 99) for _ in range(5)]
            places = sorted(chance.sample(range(256), 6))
            words = words_at(8, coefficients, places)
            for one, word in zip(places, words):
                for other, another in zip(places, words):
                    if one != other:
                        self.assertEqual((word - another) % 2 ** twos(one - other), 0)

    def test_wrong_word_at(self):
        wrong = [(InvalidWidth, NO_WIDTHS), (InvalidItems, NO_COEFFICIENTS), (InvalidNumber, NO_WHOLES)]
        check_refusals(self, word_at, [3, [1, 2], 1], wrong)

    def test_wrong_words_at(self):
        wrong = [(InvalidWidth, NO_WIDTHS), (InvalidItems, NO_COEFFICIENTS), (InvalidPlaces, no_places(3))]
        check_refusals(self, words_at, [3, [1, 2], [0, 1]], wrong)


class TestPartingPlaces(unittest.TestCase):
    def test_ordinary(self):
        places = [1, 3, 4, 200]
        self.assertEqual(parting_places(8, places, [0, 1, 2, 3], [0, 1, 2, 3]), [])
        self.assertEqual(parting_places(8, places, [0, 1, 2, 3], [1, 2, 3, 4]), places)
        self.assertEqual(parting_places(8, places, [0, 255, 2, 3], [0, 0, 2, 255]), [3, 200])
        self.assertEqual(parting_places(64, [2 ** 64 - 1], [0], [2 ** 64 - 1]), [2 ** 64 - 1])

    def test_wrong(self):
        wrong = [
            (InvalidWidth, NO_WIDTHS), (InvalidPlaces, no_places(3)), (InvalidWords, no_words(3, 2)),
            (InvalidWords, no_words(3, 2)),
        ]
        check_refusals(self, parting_places, [3, [0, 5], [1, 1], [1, 2]], wrong)
        # the empty list is no list of words either
        check_refusals(self, parting_places, [3, [0, 5], [1, 1], [1, 2]], wrong[:2] + [(InvalidWords, [[]])] * 2)


if __name__ == "__main__":
    unittest.main()
