import random
import unittest

from anyplaces.bits import bits_told, possible
from anyplaces.errors import InvalidKnown, InvalidNumber, InvalidPlaces, InvalidWidth, InvalidWords, Unfit
from anyplaces.fitting import fit_numbered, how_many_ahead, how_many_fit
from anyplaces.joined import beside_at, how_many_beside, number_beside, part_bits, said_bits
from anyplaces.orders import good_order
from anyplaces.sizes import codeword_at, how_many_codewords
from tests.plain import all_codewords, all_words, parts_of, twos, with_known, words_at_part
from tests.test_codes import random_code
from tests.test_fitting import first_unfit, known_lists, no_known, ordered_codewords
from tests.test_telling import CODES
from tests.wrong import (
    GREATEST, NO_COUNTS, NO_WIDTHS, ODD, check_refusals, no_parts, no_places, no_words, refused,
)

FOUR, SPOTS = [0, 1, 2, 3], [0, 1, 2, 4, 5]
LAST = 2 ** 64 - 1


def bits_of(listed, places, part):
    """How many bits the words at a part have, by how many lists of words come there."""
    return len({words_at_part(words, places, part) for words in listed}).bit_length() - 1


def some_part(chance, places, most=64):
    return sorted(chance.sample(places, chance.randint(0, min(most, len(places)))))


def fitting_lists(listed, places, known, part):
    """All lists of words at a part that fit known words, in order."""
    return sorted({words_at_part(words, places, part) for words in with_known(listed, places, known)})


def by_numbers(code, part):
    width, _, count = code
    numbers = good_order(width, part)[1][:count] if part else []
    return sum(width - number for number in numbers if number < width)


class TestExamples(unittest.TestCase):
    def test_bits(self):
        self.assertEqual(
            [part_bits(3, FOUR, 3, [0, 2]), part_bits(3, FOUR, 3, []), said_bits(3, FOUR, 3, [0], [2], []),
             said_bits(3, FOUR, 3, [0], [3], [1, 2]), said_bits(3, FOUR, 4, [0, 2], [1, 3], [])],
            [5, 0, 1, 2, 0])

    def test_beside(self):
        self.assertEqual(
            [how_many_beside(3, FOUR, 3, [(0, 1)], [2]), beside_at(3, FOUR, 3, [(0, 1)], [2], 1),
             number_beside(3, FOUR, 3, [(0, 1)], [2], [5]), number_beside(3, FOUR, 3, [(0, 1)], [2], [4])],
            [4, [3], 2, None])
        self.assertEqual(
            [how_many_beside(3, FOUR, 3, [(0, 1), (2, 3)], [1, 3]), beside_at(3, FOUR, 3, [(0, 1), (2, 3)], [1, 3], 0)],
            [8, [0, 2]])


class TestBits(unittest.TestCase):
    def test_listed(self):
        for code in CODES:
            places = code[1]
            listed = sorted(all_codewords(*code))
            for part in parts_of(places):
                lists = [words_at_part(words, places, part) for words in listed]
                self.assertEqual(2 ** part_bits(*code, part), len(set(lists)))
                # each in equally many codewords
                self.assertEqual({lists.count(one) for one in set(lists)}, {len(lists) // len(set(lists))})

    def test_said_listed(self):
        chance = random.Random(161)
        for code in CODES:
            places = code[1]
            listed = sorted(all_codewords(*code))
            parts = parts_of(places)
            for one in parts:
                for other in chance.sample(parts, min(4, len(parts))):
                    for third in chance.sample(parts, min(3, len(parts))):
                        told = said_bits(*code, one, other, third)
                        self.assertEqual(said_bits(*code, other, one, third), told)
                        self.assertGreaterEqual(told, 0)
                        self.check_said(listed, places, (one, other, third), told)

    def check_said(self, listed, places, parts, told):
        one, other, third = parts
        for given in {words_at_part(words, places, third) for words in listed}:
            some = [words for words in listed if words_at_part(words, places, third) == given]
            many = len({words_at_part(words, places, other) for words in some})
            beside = {}
            for words in some:
                beside.setdefault(words_at_part(words, places, one), set()).add(words_at_part(words, places, other))
            # whichever words come at the one part
            self.assertEqual({len(fitting) * 2 ** told for fitting in beside.values()}, {many})

    def test_by_numbers(self):
        chance = random.Random(162)
        for width in [1, 2, 4, 8, 20, 64] * 10:
            code = random_code(chance, width)
            one, other, third = [some_part(chance, code[1]) for _ in range(3)]
            self.assertEqual(part_bits(*code, one), by_numbers(code, one))
            self.assertEqual(part_bits(*code, code[1]), how_many_codewords(*code).bit_length() - 1)
            joined = [sorted({*some, *more}) for some, more in [(one, third), (other, third), (one + other, third)]]
            wanted = by_numbers(code, joined[0]) + by_numbers(code, joined[1]) - by_numbers(code, joined[2])
            self.assertEqual(said_bits(*code, one, other, third), wanted - by_numbers(code, third))
            self.assertGreaterEqual(said_bits(*code, one, other, third), 0)
            self.assertEqual(said_bits(*code, one, one, third), by_numbers(code, joined[0]) - by_numbers(code, third))

    def test_by_differences(self):
        chance = random.Random(163)
        told = 0
        for _ in range(150):
            width, places, _ = random_code(chance, chance.choice([8, 20, 64]))
            both = some_part(chance, places, 8)
            one = some_part(chance, both)
            other = [place for place in both if place not in one]
            if both and good_order(width, both)[1][-1] < width:
                count = len(both) + chance.choice([0, 1, GREATEST])
                differences = sum(twos(a - b) for a in one for b in other)
                self.assertEqual(said_bits(width, places, count, one, other, []), differences)
                told += differences > 0
        self.assertGreater(told, 20)

    def test_of_one_word(self):
        # what others say about one word is what is told of it
        chance = random.Random(164)
        for width in [2, 8, 20, 64] * 10:
            code = random_code(chance, width)
            asked = some_part(chance, code[1])
            place = chance.choice(code[1])
            if code[2] > 0:
                self.assertEqual(said_bits(*code, asked, [place], []), bits_told(*code, asked, place))

    def test_edges(self):
        self.assertEqual([part_bits(64, [LAST], count, [LAST]) for count in [0, 1, GREATEST]], [0, 64, 64])
        self.assertEqual(part_bits(64, [LAST], 1, []), 0)
        self.assertEqual(said_bits(64, [LAST], 1, [LAST], [LAST], []), 64)
        self.assertEqual(said_bits(64, [LAST], 1, [LAST], [LAST], [LAST]), 0)
        self.assertEqual(said_bits(64, [LAST], 0, [LAST], [LAST], []), 0)
        self.assertEqual(said_bits(64, [0, 2 ** 63], 2, [0], [2 ** 63], []), 63)
        self.assertEqual(said_bits(1, [0, 1], 1, [0], [1], []), 1)
        self.assertEqual(said_bits(1, [0, 1], 2, [0], [1], []), 0)
        neighbours = list(range(64))
        self.assertEqual(part_bits(64, neighbours, 3, neighbours), 64 * 3 - 1)
        self.assertEqual(part_bits(64, neighbours, GREATEST, neighbours[:2]), 128)
        self.assertEqual(said_bits(64, neighbours, 1, neighbours[:32], neighbours[32:], []), 64)
        steps = [k * 2 ** 58 for k in range(64)]
        self.assertEqual(part_bits(64, steps, 64, steps), 70)
        self.assertEqual(part_bits(64, steps, 64, [0, 2 ** 63]), 65)


class TestBeside(unittest.TestCase):
    def test_listed(self):
        chance = random.Random(165)
        for code in CODES:
            width, places, _ = code
            listed = ordered_codewords(code)
            parts = parts_of(places)
            for known in known_lists(chance, width, places, listed):
                for part in chance.sample(parts, min(3, len(parts))):
                    lists = fitting_lists(listed, places, known, part)
                    if not lists:
                        self.check_unfit(code, known, part, first_unfit(width, places, listed, known))
                        continue
                    self.check(chance, code, known, part, lists)

    def check(self, chance, code, known, part, lists):
        self.assertEqual(how_many_beside(*code, known, part), len(lists))
        last = len(lists) - 1
        for number in sorted({0, last, chance.randint(0, last), chance.randint(0, last)}):
            self.assertEqual(beside_at(*code, known, part, number), list(lists[number]))
            self.assertEqual(number_beside(*code, known, part, list(lists[number])), number)
        for number in [last + 1, last + 2, GREATEST]:
            refused(self, beside_at, [*code, known, part, number], InvalidNumber, number)
        for _ in range(4):
            words = [chance.getrandbits(code[0]) for _ in part]
            wanted = lists.index(tuple(words)) if tuple(words) in lists else None
            self.assertEqual(number_beside(*code, known, part, words), wanted)

    def check_unfit(self, code, known, part, place):
        words = [0] * len(part)
        refused(self, how_many_beside, [*code, known, part], Unfit, place)
        refused(self, beside_at, [*code, known, part, GREATEST], Unfit, place)
        refused(self, number_beside, [*code, known, part, words], Unfit, place)

    def test_all_numbers(self):
        for code, known, part in [((3, [0, 1, 2, 4], 2), [], [1, 4]), ((3, [0, 1, 2, 4], 3), [(1, 5)], [0, 4]),
                                  ((2, [0, 1, 2, 3], 3), [(0, 1), (2, 3)], [0, 1, 3]), ((3, [0, 2, 4, 6], 3), [(4, 2)], [0, 6])]:
            lists = fitting_lists(ordered_codewords(code), code[1], known, part)
            self.assertEqual([beside_at(*code, known, part, number) for number in range(len(lists))],
                             [list(words) for words in lists])
            for words in all_words(code[0], part):
                wanted = lists.index(words) if words in lists else None
                self.assertEqual(number_beside(*code, known, part, list(words)), wanted)

    def test_of_all_places(self):
        chance = random.Random(166)
        for width in [2, 8, 20, 64] * 8:
            code = random_code(chance, width)
            places = code[1]
            words = codeword_at(*code, chance.randrange(how_many_codewords(*code)))
            asked = some_part(chance, places, 5)
            known = list(zip(asked, words_at_part(words, places, asked)))
            many = how_many_fit(*code, known)
            self.assertEqual(how_many_beside(*code, known, places), many)
            number = how_many_ahead(*code, known, words)
            self.assertEqual(number_beside(*code, known, places, words), number)
            tried = chance.randrange(many)
            self.assertEqual(beside_at(*code, known, places, tried), fit_numbered(*code, known, tried))

    def test_of_some_places(self):
        chance = random.Random(167)
        for width in [2, 8, 20, 64] * 12:
            code = random_code(chance, width)
            places = code[1]
            words = codeword_at(*code, chance.randrange(how_many_codewords(*code)))
            asked, part = some_part(chance, places, 5), some_part(chance, places)
            known = list(zip(asked, words_at_part(words, places, asked)))
            mine = list(words_at_part(words, places, part))
            many = how_many_beside(*code, known, part)
            # as many as codewords with the known words, by as many as go with each list
            self.assertEqual(many * how_many_fit(*code, sorted({*known, *zip(part, mine)})), how_many_fit(*code, known))
            number = number_beside(*code, known, part, mine)
            self.assertEqual(beside_at(*code, known, part, number), mine)
            for tried in {0, many - 1, chance.randrange(many)}:
                found = beside_at(*code, known, part, tried)
                self.assertEqual(number_beside(*code, known, part, found), tried)
                self.assertIs(found < mine, tried < number)
                told = dict(known)
                for place, word in zip(part, found):
                    # all that fit leave one rest by a power of 2
                    least, bits = possible(*code, sorted(told.items()), place)
                    self.assertEqual(word % 2 ** bits, least)
                    told[place] = word
            if mine:
                changed = mine[:-1] + [mine[-1] ^ 1]
                there = number_beside(*code, known, part, changed)
                self.assertIs(there is None, how_many_fit_both(code, known, part, changed) == 0)

    def test_edges(self):
        self.assertEqual(how_many_beside(64, [LAST], 1, [], [LAST]), 2 ** 64)
        self.assertEqual(beside_at(64, [LAST], 1, [], [LAST], LAST), [LAST])
        self.assertEqual(number_beside(64, [LAST], 1, [], [LAST], [LAST]), LAST)
        self.assertEqual(how_many_beside(64, [LAST], GREATEST, [(LAST, 7)], [LAST]), 1)
        self.assertEqual(beside_at(64, [LAST], 1, [(LAST, 7)], [LAST], 0), [7])
        self.assertIsNone(number_beside(64, [LAST], 1, [(LAST, 7)], [LAST], [8]))
        # the empty part: the empty list alone
        for known in [[], [(LAST, 7)]]:
            self.assertEqual(how_many_beside(64, [LAST], 1, known, []), 1)
            self.assertEqual(beside_at(64, [LAST], 1, known, [], 0), [])
            self.assertEqual(number_beside(64, [LAST], 1, known, [], []), 0)
            refused(self, beside_at, [64, [LAST], 1, known, [], 1], InvalidNumber, 1)
        self.assertEqual(how_many_beside(64, [LAST], 0, [], [LAST]), 1)
        self.assertEqual(beside_at(64, [LAST], 0, [(LAST, 0)], [LAST], 0), [0])
        self.assertIsNone(number_beside(64, [LAST], 0, [], [LAST], [1]))
        refused(self, how_many_beside, [64, [LAST], 0, [(LAST, 1)], [LAST]], Unfit, LAST)
        neighbours = list(range(64))
        self.assertEqual(how_many_beside(64, neighbours, 64, [], neighbours[:2]), 2 ** 128)
        self.assertEqual(beside_at(64, neighbours, 64, [], [0, 63], 2 ** 128 - 1), [LAST, LAST])
        self.assertEqual(how_many_beside(64, neighbours, 2, [(0, 0), (1, 1)], neighbours), 1)
        self.assertEqual(beside_at(64, neighbours, 2, [(0, 0), (1, 1)], neighbours[7:], 0), neighbours[7:])
        known = list(zip(neighbours, neighbours))
        self.assertEqual(number_beside(64, neighbours, 2, known, [3, 9], [3, 9]), 0)
        self.assertIsNone(number_beside(64, neighbours, 2, known, [3, 9], [3, 10]))


def how_many_fit_both(code, known, part, words):
    """How many codewords have known words and those at a part, none if the two are at odds."""
    told = dict(known)
    if any(told.get(place, word) != word for place, word in zip(part, words)):
        return 0
    return how_many_fit(*code, sorted({**told, **dict(zip(part, words))}.items()))


class TestWrong(unittest.TestCase):
    CODE = [(InvalidWidth, NO_WIDTHS), (InvalidPlaces, no_places(3)), (InvalidNumber, NO_COUNTS)]
    NO_PART = (InvalidPlaces, no_parts(3, SPOTS))
    KNOWN = CODE + [(InvalidKnown, no_known(3, SPOTS))]
    UNFIT = [(0, 0), (2, 1)]

    def test_bits(self):
        check_refusals(self, part_bits, [3, SPOTS, 3, [0, 1]], self.CODE + [self.NO_PART])
        check_refusals(self, part_bits, [3, SPOTS, 0, []], self.CODE + [self.NO_PART])
        for parts in [[[0], [2], []], [[], [], [1, 2]]]:
            check_refusals(self, said_bits, [3, SPOTS, 3, *parts], self.CODE + [self.NO_PART] * 3)

    def test_how_many(self):
        for known, part in [([(0, 1), (1, 3)], [2, 4]), ([], [])]:
            check_refusals(self, how_many_beside, [3, SPOTS, 3, known, part], self.KNOWN + [self.NO_PART])
        for part in self.NO_PART[1]:
            refused(self, how_many_beside, [3, SPOTS, 3, self.UNFIT, part], InvalidPlaces, part)
        for part in parts_of(SPOTS):
            refused(self, how_many_beside, [3, SPOTS, 3, self.UNFIT, part], Unfit, 2)

    def test_numbers(self):
        for known, part, first in [([(0, 1), (1, 3)], [2, 4], 4), ([], [0, 1], 64), ([], [], 1)]:
            wrong = self.KNOWN + [self.NO_PART, (InvalidNumber, NO_COUNTS + [first, first + 1, GREATEST])]
            check_refusals(self, beside_at, [3, SPOTS, 3, known, part, 0], wrong)
        for part in self.NO_PART[1]:
            refused(self, beside_at, [3, SPOTS, 3, self.UNFIT, part, -1], InvalidPlaces, part)
        for number in NO_COUNTS:
            refused(self, beside_at, [3, SPOTS, 3, self.UNFIT, [1], number], InvalidNumber, number)
        # ahead of what is too much
        for number in [0, 1, 10 ** 9, GREATEST]:
            refused(self, beside_at, [3, SPOTS, 3, self.UNFIT, [1], number], Unfit, 2)

    def test_words(self):
        for known in [[(0, 1), (1, 3)], []]:
            wrong = self.KNOWN + [self.NO_PART, (InvalidWords, no_words(3, 2) + [[]])]
            check_refusals(self, number_beside, [3, SPOTS, 3, known, [2, 4], [3, 1]], wrong)
            no_empty = ODD + [[0], (0,), 0, [1, 2], "", GREATEST]
            check_refusals(self, number_beside, [3, SPOTS, 3, known, [], []], self.KNOWN + [self.NO_PART, (InvalidWords, no_empty)])
        for words in no_words(3, 2) + [[]]:
            refused(self, number_beside, [3, SPOTS, 3, self.UNFIT, [2, 4], words], InvalidWords, words)
        for words in [[3, 1], [0, 0], [1, 7]]:
            refused(self, number_beside, [3, SPOTS, 3, self.UNFIT, [2, 4], words], Unfit, 2)


if __name__ == "__main__":
    unittest.main()
