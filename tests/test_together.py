"""One code asked by many functions: what they say of one another."""

import random
import unittest

from anyplaces.alarms import look_alikes, unseen
from anyplaces.bases import how_many_bases
from anyplaces.bits import bits_told, closure, possible, told_bits
from anyplaces.checks import alarms, check_of, how_many_checks, is_check, triangle
from anyplaces.codes import codeword, is_codeword, items_of, misfit
from anyplaces.distance import distance, hurting, lightest
from anyplaces.fitting import fit_numbered, how_many_fit
from anyplaces.grids import (
    filled_grid, grid_distance, grid_size, grid_word, how_many_both, is_grid_word, meeting_tells, numbers_of,
)
from anyplaces.helpers import follows
from anyplaces.joined import beside_at, how_many_beside, number_beside, part_bits, said_bits
from anyplaces.lines import line_of, of_line
from anyplaces.mending import mendable, mended
from anyplaces.orders import good_order
from anyplaces.sizes import codeword_at, codeword_number, how_many_codewords, item_count
from anyplaces.store import Store
from anyplaces.telling import bit_rows, is_telling
from anyplaces.within import first_above, how_many_above, how_many_stretched, least_count, stretched_coefficients
from tests.test_codes import random_code
from tests.wrong import GREATEST

SEEDS = range(60)


def some_code(seed):
    chance = random.Random(3000 + seed)
    return chance, random_code(chance, [1, 2, 3, 4, 8, 20, 64][seed % 7])


def some_words(chance, code):
    return codeword_at(*code, chance.randrange(how_many_codewords(*code)))


def some_part(chance, places):
    return sorted(chance.sample(places, chance.randint(0, len(places))))


def known_at(places, words, part):
    return [(place, word) for place, word in zip(places, words) if place in part]


class TestParts(unittest.TestCase):
    def test_how_many_fit(self):
        for seed in SEEDS:
            chance, code = some_code(seed)
            words, part, other = some_words(chance, code), some_part(chance, code[1]), some_part(chance, code[1])
            known = known_at(code[1], words, part)
            self.assertEqual(how_many_fit(*code, known), 2 ** (part_bits(*code, code[1]) - part_bits(*code, part)))
            self.assertEqual(how_many_beside(*code, known, code[1]), how_many_fit(*code, known))
            both = sorted({*part, *other})
            self.assertEqual(how_many_beside(*code, known, other), 2 ** (part_bits(*code, both) - part_bits(*code, part)))
            number = chance.randrange(how_many_beside(*code, known, code[1]))
            self.assertEqual(beside_at(*code, known, code[1], number), fit_numbered(*code, known, number))
            self.assertEqual(number_beside(*code, [], code[1], words), number_of_all(code, words))

    def test_told_bits(self):
        for seed in SEEDS:
            chance, code = some_code(seed)
            asked, words = some_part(chance, code[1]), some_words(chance, code)
            known = known_at(code[1], words, asked)
            for place in code[1]:
                bits = bits_told(*code, asked, place)
                self.assertEqual(part_bits(*code, sorted({*asked, place})) - part_bits(*code, asked), code[0] - bits)
                word, told = possible(*code, known, place)
                self.assertEqual(how_many_beside(*code, known, [place]), 2 ** (code[0] - told))
                self.assertEqual(beside_at(*code, known, [place], 0), [word])
            whole = closure(*code, asked)
            self.assertEqual(part_bits(*code, whole), part_bits(*code, asked))
            self.assertEqual(said_bits(*code, asked, whole, []), part_bits(*code, whole))

    def test_telling_parts(self):
        for seed in SEEDS:
            chance, code = some_code(seed)
            part = some_part(chance, code[1])
            tells = is_telling(*code, part)
            self.assertIs(tells, part_bits(*code, part) == part_bits(*code, code[1]))
            self.assertIs(tells, said_bits(*code, part, code[1], []) == how_many_codewords(*code).bit_length() - 1)
            self.assertIs(tells, told_bits(*code, part) == [code[0]] * len(code[1]))


def number_of_all(code, words):
    """How many codewords are ahead of one, in the order of lists, by taking one word after the other."""
    ahead, known = 0, []
    for place, word in zip(code[1], words):
        least, bits = possible(*code, known, place)
        ahead += (word - least >> bits) * how_many_fit(*code, known + [(place, word)])
        known.append((place, word))
    return ahead


class TestChecks(unittest.TestCase):
    def test_items_and_alarms(self):
        for seed in SEEDS:
            chance, code = some_code(seed)
            width, places, _ = code
            self.assertEqual(how_many_checks(*code) * how_many_codewords(*code), 2 ** (width * len(places)))
            self.assertEqual(how_many_checks(*code), 2 ** (width * len(places) - part_bits(*code, places)))
            one, other = some_words(chance, code), some_words(chance, code)
            change = [chance.choice([0, 0, chance.getrandbits(width)]) for _ in places]
            wrong = [[(a + b) % 2 ** width for a, b in zip(words, change)] for words in [one, other]]
            self.assertEqual(alarms(*code, wrong[0]), alarms(*code, wrong[1]))
            first = [k for k, told in enumerate(alarms(*code, wrong[0])) if told][:1]
            place = misfit(*code, wrong[0])
            self.assertEqual([good_order(width, places)[0][k] for k in first], [] if place is None else [place])
            # a check of the triangle whose factors are all 0 stands for each item whose number is 0
            numbers = good_order(width, places)[1][:item_count(*code)]
            self.assertEqual([any(row) for row in triangle(*code)][:len(numbers)], [number > 0 for number in numbers])

    def test_distance(self):
        for seed in SEEDS:
            chance, code = some_code(seed)
            least = distance(*code)
            unseens = [unseen(*code, place) for place in code[1]]
            self.assertIs(least is None or least >= 2, not any(unseens))
            for at, place in enumerate(code[1]):
                others = code[1][:at] + code[1][at + 1:]
                self.assertIs(unseens[at] is None, follows(*code, others, place))
                self.assertIs(unseens[at] is None, is_telling(*code, others))
            pairs = look_alikes(*code)
            if least is None or least >= 3:
                self.assertEqual(pairs, [])
            if least == 2:
                self.assertIn(tuple(hurting(*code)), pairs)
                light = lightest(*code)
                self.assertIn(tuple(place for place, word in zip(code[1], light) if word), pairs)

    def test_fewer_items_more_checks(self):
        for seed in SEEDS:
            chance, code = some_code(seed)
            width, places, count = code
            words = some_words(chance, code)
            least = least_count(width, places, words)
            for fewer in range(min(count, len(places)) + 1):
                self.assertIs(is_codeword(width, places, fewer, words), fewer >= least)
                self.assertIs(any(alarms(width, places, fewer, words)), fewer < least)
            ends = [2 ** width // step for step in steps_of(code)]
            check = check_of(*code, [chance.randrange(end) for end in ends])
            for fewer in range(min(count, len(places)) + 1):
                self.assertIs(is_check(width, places, fewer, check), True)


def steps_of(code):
    many = item_count(*code)
    return [2 ** (code[0] - number) if k < many else 1 for k, number in enumerate(good_order(*code[:2])[1])]


class TestWithin(unittest.TestCase):
    def test_low_bits(self):
        for seed in SEEDS:
            chance, code = some_code(seed)
            width, places, _ = code
            words = some_words(chance, code)
            for bits in sorted({1, (width + 1) // 2, width}):
                lows = [word % 2 ** bits for word in words]
                first = first_above(*code, bits, lows)
                self.assertLessEqual(codeword_number(*code, first), codeword_number(*code, words))
                self.assertEqual(first == words, codeword_number(*code, first) == codeword_number(*code, words))
                many = how_many_above(*code, bits, lows)
                self.assertEqual(many, how_many_above(*code, bits, [0] * len(places)))
                if bits == width:
                    self.assertEqual(many, 1)
            # highest bits alone: as many as sums of the rows of bits
            if width > 1:
                self.assertEqual(how_many_above(*code, width - 1, [0] * len(places)), 2 ** len(bit_rows(*code)))

    def test_stretched(self):
        for seed in SEEDS:
            chance, code = some_code(seed)
            words = some_words(chance, code)
            self.assertEqual(how_many_stretched(*code, 0), how_many_codewords(*code))
            self.assertIsNotNone(stretched_coefficients(*code, 0, words))
            for bits in [1, code[0]]:
                items = [d >> bits * k << bits * k for k, d in enumerate(items_of(*code, words))]
                stretched = codeword(*code, items)
                for fewer in range(bits + 1):
                    self.assertIsNotNone(stretched_coefficients(*code, fewer, stretched))


class TestGrids(unittest.TestCase):
    def test_of_two_codes(self):
        for seed in SEEDS:
            chance, (width, rows, count) = some_code(seed)
            columns = sorted({chance.getrandbits(width) for _ in range(chance.randint(1, 6))})
            other_count = chance.choice([0, 1, 2, 3, GREATEST])
            grid = (width, rows, columns, count, other_count)
            one, other = some_words(chance, (width, rows, count)), some_words(chance, (width, columns, other_count))
            table = [[a * b % 2 ** width for b in other] for a in one]
            self.assertIs(is_grid_word(*grid, table), True)
            self.assertEqual(grid_word(*grid, numbers_of(*grid, table)), table)
            self.assertLessEqual(grid_size(*grid), how_many_both(*grid))
            least = [distance(width, rows, count), distance(width, columns, other_count)]
            if None in least:
                self.assertIsNone(grid_distance(*grid))
            else:
                self.assertGreaterEqual(grid_distance(*grid), least[0] * least[1])
            parts = some_part(chance, rows), some_part(chance, columns)
            if meeting_tells(*grid, *parts):
                told = [[word for y, word in zip(columns, words) if y in parts[1]] for x, words in zip(rows, table) if x in parts[0]]
                self.assertEqual(filled_grid(*grid, *parts, told), table)


class TestStores(unittest.TestCase):
    def test_known_words(self):
        for seed in SEEDS:
            chance, code = some_code(seed)
            words, part = some_words(chance, code), some_part(chance, code[1])
            known = known_at(code[1], words, part)
            store = Store(*code)
            for place, word in chance.sample(known, len(known)):
                store.do(("set", place, word))
            self.assertEqual(store.known(), known)
            self.assertEqual(of_line(line_of(*code, known)), (*code, known))
            self.assertEqual(of_line(line_of(store.width(), store.places(), store.count(), store.known())), (*code, known))
            self.assertEqual(store.choices(), how_many_fit(*code, known))
            self.assertEqual(store.told(), closure(*code, part))
            store.do(("fill",))
            self.assertEqual(store.known(), known_at(code[1], words, closure(*code, part)))
            items = items_of(*code, words)
            store.do(("write", items))
            self.assertEqual(store.known(), list(zip(code[1], words)))
            self.assertEqual(store.choices(), 1)

    def test_mended(self):
        for seed in SEEDS:
            chance, code = some_code(seed)
            words = some_words(chance, code)
            store = Store(*code)
            store.do(("write", items_of(*code, words)))
            for place in chance.sample(code[1], min(mendable(*code), len(code[1]))):
                store.do(("set", place, chance.getrandbits(code[0])))
            wrong = [word for _, word in store.known()]
            self.assertEqual(mended(*code, wrong), words)
            self.assertIs(store.choices() == 1, wrong == words)
            self.assertGreater(how_many_bases(*code), 0)


if __name__ == "__main__":
    unittest.main()
