import random
import unittest

from anyplaces.bits import bits_told, closure, low_bits, low_by_low, possible, told_bits, untold
from anyplaces.errors import InvalidKnown, InvalidNumber, InvalidPlaces, InvalidWidth, Unfit
from anyplaces.codes import is_codeword
from anyplaces.fitting import fit_numbered, how_many_fit
from anyplaces.orders import good_order
from anyplaces.sizes import codeword_at, how_many_codewords
from tests.plain import alike_bits, all_codewords, parts_of, product_of, twos, with_known, words_at_part
from tests.test_codes import random_code
from tests.test_fitting import first_unfit, known_lists, no_known, ordered_codewords
from tests.test_telling import CODES
from tests.wrong import GREATEST, NO_COUNTS, NO_WIDTHS, check_refusals, no_parts, no_places, refused

SPOTS = [0, 1, 2, 4, 5]
SIX = [0, 1, 5, 13, 14, 15]
LAST = 2 ** 64 - 1
ENDLESS = 10 ** 9


def told_by_listing(code, asked, listed):
    """How many low bits of each word codewords with the same words at the asked places have alike."""
    width, places, _ = code
    groups = {}
    for words in listed:
        groups.setdefault(words_at_part(words, places, asked), []).append(words)
    return [
        min(alike_bits(width, {words[at] for words in group}) for group in groups.values()) for at in range(len(places))
    ]


def told_by_rule(code, asked, place):
    width, _, count = code
    order, numbers = good_order(width, asked) if asked else ([], [])

    def twos_at(k):
        worth = product_of(order[:k], place)
        return twos(worth) if worth else ENDLESS

    told = [width] + [twos_at(k) + max(0, width - numbers[k]) for k in range(min(count, len(asked)))]
    return min(told + ([twos_at(len(asked))] if len(asked) < count else []))


class TestExamples(unittest.TestCase):
    def test_told(self):
        self.assertEqual(
            [told_bits(3, SPOTS, 3, [0, 1]), told_bits(3, SPOTS, 3, [0, 2, 4]), told_bits(3, SPOTS, 3, []),
             told_bits(3, SPOTS, 0, [])],
            [[3, 3, 1, 2, 2], [3, 0, 3, 3, 0], [0, 0, 0, 0, 0], [3, 3, 3, 3, 3]])
        self.assertEqual(
            [bits_told(3, SPOTS, 2, [0, 4], 2), possible(3, SPOTS, 3, [(0, 1), (1, 3)], 4),
             possible(3, SPOTS, 3, [(0, 1), (1, 3)], 2)],
            [2, (1, 2), (1, 1)])

    def test_closures(self):
        self.assertEqual(
            [closure(3, SPOTS, 3, [0, 2, 4]), closure(3, SPOTS, 3, [0, 1, 2]), untold(3, SPOTS, 3, [0, 1], 4),
             untold(3, SPOTS, 3, [0, 1], 1)],
            [[0, 2, 4], [0, 1, 2, 4, 5], [0, 0, 2, 4, 4], None])

    def test_low_bits(self):
        self.assertEqual(
            [low_bits(3, SPOTS, 3, [0, 1]), low_by_low(SPOTS, 3, [0, 1]), low_bits(4, SIX, 2, [5, 13, 15]),
             low_by_low(SIX, 2, [5, 13, 15]), low_by_low(SPOTS, 2, [0, 1])],
            [1, 1, 3, 0, None])


class TestTold(unittest.TestCase):
    def test_listed(self):
        for code in CODES:
            width, places, _ = code
            listed = all_codewords(*code)
            for asked in parts_of(places):
                told = told_by_listing(code, asked, listed)
                self.assertEqual(told_bits(*code, asked), told)
                self.assertEqual([bits_told(*code, asked, place) for place in places], told)
                self.assertEqual(low_bits(*code, asked), min(told))
                whole = [place for place, bits in zip(places, told) if bits == width]
                self.assertEqual(closure(*code, asked), whole)

    def test_by_rule(self):
        chance = random.Random(81)
        for width in [4, 8, 20, 40, 64] * 12:
            code = random_code(chance, width)
            places = code[1]
            asked = sorted(chance.sample(places, chance.randint(0, len(places))))
            told = [told_by_rule(code, asked, place) for place in places]
            self.assertEqual(told_bits(*code, asked), told)
            self.assertEqual(low_bits(*code, asked), min(told))
            place = chance.choice(places)
            self.assertEqual(bits_told(*code, asked, place), told[places.index(place)])

    def test_by_how_many(self):
        # a further word is told in so many bits as it takes codewords away
        chance = random.Random(82)
        for width in [3, 8, 20, 64] * 10:
            code = random_code(chance, width)
            places = code[1]
            asked = sorted(chance.sample(places, chance.randint(0, len(places))))
            for place in places:
                more = sorted({*asked, place})
                fewer = how_many_fit(*code, [(one, 0) for one in asked])
                left = how_many_fit(*code, [(one, 0) for one in more])
                self.assertEqual(fewer, left * 2 ** (width - bits_told(*code, asked, place)))

    def test_edges(self):
        self.assertEqual(bits_told(64, [LAST], 1, [], LAST), 0)
        self.assertEqual(bits_told(64, [LAST], 0, [], LAST), 64)
        self.assertEqual(bits_told(64, [LAST], GREATEST, [LAST], LAST), 64)
        self.assertEqual(told_bits(1, [0, 1], 2, [1]), [0, 1])
        self.assertEqual(told_bits(1, [0, 1], 1, [1]), [1, 1])
        self.assertEqual(told_bits(64, [0, 2 ** 63], 2, [0]), [64, 63])
        neighbours = list(range(64))
        self.assertEqual(told_bits(64, neighbours, GREATEST, []), [0] * 64)
        self.assertEqual(told_bits(64, neighbours, 64, neighbours), [64] * 64)
        self.assertEqual(told_bits(64, neighbours, 63, neighbours[1:]), [64] * 64)
        self.assertEqual(told_bits(64, neighbours, 2, [0]), [64] + [twos(place) for place in neighbours[1:]])
        steps = [k * 2 ** 58 for k in range(64)]
        self.assertEqual(told_bits(64, steps, 64, [0, 2 ** 58]), [64] * 64)


class TestPossible(unittest.TestCase):
    def test_listed(self):
        chance = random.Random(83)
        for code in CODES:
            width, places, _ = code
            listed = ordered_codewords(code)
            for known in known_lists(chance, width, places, listed):
                fitting = with_known(listed, places, known)
                for at, place in enumerate(places):
                    if not fitting:
                        refused(self, possible, [*code, known, place], Unfit, first_unfit(width, places, listed, known))
                        continue
                    word, bits = possible(*code, known, place)
                    stands = [words[at] for words in fitting]
                    self.assertEqual(sorted(set(stands)), list(range(word, 2 ** width, 2 ** bits)))
                    self.assertEqual({stands.count(one) for one in stands}, {len(stands) // len(set(stands))})

    def test_larger_codes(self):
        chance = random.Random(84)
        for width in [8, 20, 64] * 12:
            code = random_code(chance, width)
            places = code[1]
            words = codeword_at(*code, chance.randrange(how_many_codewords(*code)))
            asked = sorted(chance.sample(places, chance.randint(0, min(4, len(places)))))
            known = list(zip(asked, words_at_part(words, places, asked)))
            for at, place in enumerate(places):
                bits = bits_told(*code, asked, place)
                self.assertEqual(possible(*code, known, place), (words[at] % 2 ** bits, bits))

    def test_edges(self):
        self.assertEqual(possible(64, [LAST], 1, [], LAST), (0, 0))
        self.assertEqual(possible(64, [LAST], 1, [(LAST, 7)], LAST), (7, 64))
        self.assertEqual(possible(64, [LAST], 0, [], LAST), (0, 64))
        self.assertEqual(possible(1, [0, 1], 1, [(0, 1)], 1), (1, 1))


class TestClosure(unittest.TestCase):
    def test_of_itself_and_within(self):
        chance = random.Random(85)
        for width in [3, 8, 20, 64] * 10:
            code = random_code(chance, width)
            places = code[1]
            asked = sorted(chance.sample(places, chance.randint(0, len(places))))
            whole = closure(*code, asked)
            self.assertEqual(closure(*code, whole), whole)
            self.assertLessEqual(set(asked), set(whole))
            fewer = sorted(chance.sample(asked, chance.randint(0, len(asked))))
            self.assertLessEqual(set(closure(*code, fewer)), set(whole))

    def test_untold_listed(self):
        for code in CODES:
            width, places, _ = code
            listed = ordered_codewords(code)
            for asked in parts_of(places):
                whole = closure(*code, asked)
                for place in places:
                    if place in whole:
                        self.assertIsNone(untold(*code, asked, place))
                        continue
                    known = sorted([(one, 0) for one in asked] + [(place, 2 ** bits_told(*code, asked, place))])
                    self.assertEqual(untold(*code, asked, place), list(with_known(listed, places, known)[0]))

    def test_untold_larger(self):
        chance = random.Random(86)
        for width in [8, 20, 64] * 10:
            code = random_code(chance, width)
            places = code[1]
            asked = sorted(chance.sample(places, chance.randint(0, len(places) // 2)))
            for place in places:
                words = untold(*code, asked, place)
                self.assertIs(words is None, place in closure(*code, asked))
                if words is not None:
                    told = 2 ** bits_told(*code, asked, place)
                    self.assertTrue(is_codeword(*code, words))
                    self.assertFalse(any(words_at_part(words, places, asked)))
                    self.assertEqual(words[places.index(place)], told)
                    known = sorted([(one, 0) for one in asked] + [(place, told)])
                    self.assertEqual(words, fit_numbered(*code, known, 0))

    def test_edges(self):
        self.assertEqual(closure(64, [LAST], 0, []), [LAST])
        self.assertEqual(closure(64, [LAST], 1, []), [])
        self.assertEqual(untold(64, [LAST], 1, [], LAST), [1])
        self.assertIsNone(untold(64, [LAST], 0, [], LAST))
        self.assertIsNone(untold(64, [LAST], GREATEST, [LAST], LAST))
        self.assertEqual(untold(64, [0, 2 ** 63], 2, [0], 2 ** 63), [0, 2 ** 63])
        self.assertEqual(untold(1, [0, 1], GREATEST, [1], 0), [1, 0])
        self.assertEqual(closure(64, list(range(64)), 2, [0, 1]), list(range(64)))


class TestLowByLow(unittest.TestCase):
    def test_listed_at_some_widths(self):
        for places in [[0, 1], [0, 2], [0, 1, 2], [1, 2, 3], [0, 2, 3], [0, 1, 3], [0, 4], [1, 3, 5], [0, 1, 2, 3]]:
            for count in range(len(places) + 1):
                codes = []
                for width in [2, 3, 4]:
                    if places[-1] < 2 ** width and width * count <= 9:
                        codes.append((width, all_codewords(width, places, count)))
                for asked in parts_of(places):
                    most = low_by_low(places, count, asked)
                    for width, listed in codes:
                        for j in range(1, width + 1):
                            self.assertIs(self.tells(j, listed, places, asked), most is None or j <= most)

    def tells(self, j, listed, places, asked):
        lows = {tuple(word % 2 ** j for word in words) for words in listed}
        return len({words_at_part(words, places, asked) for words in lows}) == len(lows)

    def test_by_rule(self):
        chance = random.Random(87)
        for width in [4, 8, 30, 64] * 20:
            _, places, count = random_code(chance, width)
            asked = sorted(chance.sample(places, chance.randint(0, len(places))))
            numbers = good_order(64, places)[1]
            theirs = (good_order(64, asked)[1] if asked else []) + [ENDLESS] * (len(places) - len(asked))
            greater = [k for k in range(min(count, len(places))) if theirs[k] > numbers[k]]
            self.assertEqual(low_by_low(places, count, asked), min([numbers[k] for k in greater], default=None))

    def test_edges(self):
        self.assertEqual(low_by_low([LAST], 1, []), 0)
        self.assertIsNone(low_by_low([LAST], 0, []))
        self.assertIsNone(low_by_low([LAST], GREATEST, [LAST]))
        self.assertEqual(low_by_low([0, 2 ** 63], 2, [0]), 63)
        # above 64
        self.assertEqual(low_by_low([0, 2 ** 62, 2 ** 63], 3, [0, 2 ** 62]), 125)
        self.assertIsNone(low_by_low([0, 2 ** 62, 2 ** 63], 2, [0, 2 ** 62]))
        self.assertEqual(low_by_low(list(range(64)), GREATEST, list(range(63))), 57)
        self.assertEqual(low_bits(64, list(range(64)), GREATEST, list(range(63))), 57)

    def test_never_more_than_whole_words_tell(self):
        for code in CODES:
            width, places, count = code
            for asked in parts_of(places):
                most = low_by_low(places, count, asked)
                self.assertGreaterEqual(low_bits(*code, asked), width if most is None else min(width, most))


class TestWrong(unittest.TestCase):
    CODE = [(InvalidWidth, NO_WIDTHS), (InvalidPlaces, no_places(3)), (InvalidNumber, NO_COUNTS)]
    ASKED = CODE + [(InvalidPlaces, no_parts(3, SPOTS))]
    NO_PLACE = (InvalidNumber, NO_COUNTS + [3, 6, 7, 8, GREATEST])

    def test_asked(self):
        for function in [told_bits, closure, low_bits]:
            check_refusals(self, function, [3, SPOTS, 3, [0, 1]], self.ASKED)
            check_refusals(self, function, [3, SPOTS, 0, []], self.ASKED)

    def test_places(self):
        for function in [bits_told, untold]:
            check_refusals(self, function, [3, SPOTS, 3, [0, 1], 4], self.ASKED + [self.NO_PLACE])

    def test_possible(self):
        wrong = self.CODE + [(InvalidKnown, no_known(3, SPOTS)), self.NO_PLACE]
        for known in [[(0, 1), (1, 3)], []]:
            check_refusals(self, possible, [3, SPOTS, 3, known, 4], wrong)
        # known words that no codeword has are told behind the place
        for place in self.NO_PLACE[1]:
            refused(self, possible, [3, SPOTS, 3, [(0, 0), (2, 1)], place], InvalidNumber, place)
        for place in SPOTS:
            refused(self, possible, [3, SPOTS, 3, [(0, 0), (2, 1)], place], Unfit, 2)

    def test_low_by_low(self):
        wrong = [(InvalidPlaces, no_places(64)), (InvalidNumber, NO_COUNTS), (InvalidPlaces, no_parts(64, SPOTS))]
        check_refusals(self, low_by_low, [SPOTS, 3, [0, 1]], wrong)


if __name__ == "__main__":
    unittest.main()
