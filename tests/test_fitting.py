import random
import unittest

from anyplaces.errors import InvalidKnown, InvalidNumber, InvalidPlaces, InvalidWidth, InvalidWords, Unfit
from anyplaces.fitting import fit_numbered, fits, how_many_ahead, how_many_fit
from anyplaces.codes import is_codeword
from anyplaces.orders import good_order
from anyplaces.sizes import codeword_at, how_many_codewords
from tests.plain import all_codewords, parts_of, with_known, words_at_part
from tests.test_codes import random_code
from tests.test_telling import CODES
from tests.wrong import GREATEST, NO_COUNTS, NO_WIDTHS, ODD, check_refusals, no_places, no_words, refused

SPOTS = [0, 1, 2, 4, 5]
LAST = 2 ** 64 - 1


def known_lists(chance, width, places, listed):
    """Known words of all parts: those of a codeword, and the same ones changed at one place."""
    found = []
    for part in parts_of(places):
        words = chance.choice(listed)
        known = list(zip(part, words_at_part(words, places, part)))
        found.append(known)
        if known:
            at = chance.randrange(len(known))
            changed = (known[at][1] + chance.choice([1, 2 ** (width - 1)])) % 2 ** width
            found.append(known[:at] + [(known[at][0], changed)] + known[at + 1:])
    return found


def first_unfit(width, places, listed, known):
    """The first place, in the good order of the known ones, at which no codeword goes on."""
    order = good_order(width, [place for place, _ in known])[0]
    told = dict(known)
    for many in range(1, len(order) + 1):
        if not with_known(listed, places, [(place, told[place]) for place in order[:many]]):
            return order[many - 1]


def ordered_codewords(code):
    return sorted(all_codewords(*code))


def no_known(width, places):
    """Values that are no known words of places, of which 3 is none and the first two are used."""
    one, two = places[:2]
    end = 2 ** width
    wrong = [0, 1, GREATEST, (), ((one, 0),), {one: 0}, [one], [one, two], [(one, 0), one], [(one,)], [(one, 0, 0)]]
    wrong += [[[one, 0]], [(3, 0)], [(one, end)], [(one, -1)], [(one, True)], [(False, 0)], [(one, None)], [(None, 0)]]
    wrong += [[(two, 0), (one, 0)], [(one, 0), (one, 0)], [(one, 0), (two, end)], [(one, 0), (two, "0")], [(-1, 0)]]
    return ODD + wrong + [[(one, GREATEST)], [(GREATEST, 0)], [(one, 0), Unfit()], "(0, 0)", [((one, 0),)], [(one, (0,))]]


class TestExamples(unittest.TestCase):
    def test_fitting(self):
        self.assertEqual(
            [how_many_fit(3, SPOTS, 3, []), how_many_fit(3, SPOTS, 3, [(0, 1), (1, 3)]),
             fits(3, SPOTS, 3, [(0, 0), (2, 1)]), how_many_fit(3, SPOTS, 3, [(0, 0), (2, 1)])],
            [256, 4, False, 0])
        self.assertEqual(
            [fit_numbered(3, SPOTS, 3, [(0, 1), (1, 3)], number) for number in range(4)],
            [[1, 3, 1, 1, 3], [1, 3, 3, 5, 7], [1, 3, 5, 1, 3], [1, 3, 7, 5, 7]])
        self.assertEqual(
            [how_many_ahead(3, SPOTS, 3, [(0, 1), (1, 3)], [1, 3, 5, 0, 0]), how_many_ahead(3, SPOTS, 3, [], [0] * 5),
             fit_numbered(3, [7], 0, [], 0)],
            [2, 0, [0]])


class TestListed(unittest.TestCase):
    def test_fits(self):
        chance = random.Random(71)
        seen = set()
        for code in CODES:
            width, places, _ = code
            listed = ordered_codewords(code)
            for known in known_lists(chance, width, places, listed):
                fitting = with_known(listed, places, known)
                seen.add(len(fitting) > 0)
                self.assertIs(fits(*code, known), len(fitting) > 0)
                self.assertEqual(how_many_fit(*code, known), len(fitting))
                if not fitting:
                    with self.assertRaises(Unfit) as caught:
                        fit_numbered(*code, known, 0)
                    self.assertIs(caught.exception.__class__, Unfit)
                    self.assertEqual(caught.exception.value, first_unfit(width, places, listed, known))
        self.assertEqual(seen, {True, False})

    def test_numbers(self):
        chance = random.Random(72)
        for code in CODES:
            width, places, _ = code
            listed = ordered_codewords(code)
            for known in known_lists(chance, width, places, listed):
                fitting = with_known(listed, places, known)
                if not fitting:
                    continue
                last = len(fitting) - 1
                for number in sorted({0, last, *[chance.randint(0, last) for _ in range(6)]}):
                    self.assertEqual(fit_numbered(*code, known, number), list(fitting[number]))
                    self.assertEqual(how_many_ahead(*code, known, list(fitting[number])), number)
                for number in [last + 1, last + 2, GREATEST]:
                    refused(self, fit_numbered, [*code, known, number], InvalidNumber, number)

    def test_all_numbers(self):
        for code in [(3, [0, 1, 2, 4], 2), (3, [1, 3, 7], 3), (2, [0, 1, 2, 3], 3), (3, [0, 2, 4, 6], 3)]:
            listed = ordered_codewords(code)
            found = [fit_numbered(*code, [], number) for number in range(len(listed))]
            self.assertEqual(found, [list(words) for words in listed])

    def test_ahead(self):
        chance = random.Random(73)
        for code in CODES:
            width, places, _ = code
            listed = ordered_codewords(code)
            for known in known_lists(chance, width, places, listed):
                fitting = with_known(listed, places, known)
                tried = [[chance.getrandbits(width) for _ in places] for _ in range(4)]
                tried += [[0] * len(places), [2 ** width - 1] * len(places)]
                near = [list(words) for words in chance.sample(fitting, min(2, len(fitting)))]
                for words in near:
                    words[-1] = (words[-1] + 1) % 2 ** width
                for words in tried + near:
                    ahead = [one for one in fitting if list(one) < words]
                    self.assertEqual(how_many_ahead(*code, known, words), len(ahead))


class TestLargerCodes(unittest.TestCase):
    def test_there_and_back(self):
        chance = random.Random(74)
        for width in [4, 8, 20, 40, 64] * 12:
            code = random_code(chance, width)
            places = code[1]
            words = codeword_at(*code, chance.randrange(how_many_codewords(*code)))
            part = sorted(chance.sample(places, chance.randint(0, min(5, len(places)))))
            known = list(zip(part, words_at_part(words, places, part)))
            total = how_many_fit(*code, known)
            self.assertIs(fits(*code, known), True)
            self.assertEqual(total & (total - 1), 0)
            number = how_many_ahead(*code, known, words)
            self.assertEqual(fit_numbered(*code, known, number), words)
            for tried in {0, total - 1, chance.randrange(total)}:
                found = fit_numbered(*code, known, tried)
                self.assertTrue(is_codeword(*code, found))
                self.assertEqual(words_at_part(found, places, part), words_at_part(words, places, part))
                self.assertEqual(how_many_ahead(*code, known, found), tried)
                self.assertIs(found < words, tried < number)

    def test_how_many_by_numbers(self):
        chance = random.Random(75)
        for width in [3, 8, 30, 64] * 8:
            code = random_code(chance, width)
            places = code[1]
            part = sorted(chance.sample(places, chance.randint(0, len(places))))
            known = [(place, 0) for place in part]

            def bits_of(some):
                numbers = good_order(width, some)[1][:code[2]] if some else []
                return sum(max(0, width - number) for number in numbers)

            self.assertEqual(how_many_fit(*code, known), 2 ** (bits_of(places) - bits_of(part)))

    def test_edges(self):
        self.assertEqual(how_many_fit(64, [LAST], 1, []), 2 ** 64)
        self.assertEqual(how_many_fit(64, [LAST], GREATEST, [(LAST, 5)]), 1)
        self.assertEqual(fit_numbered(64, [LAST], 1, [], LAST), [LAST])
        self.assertEqual(fit_numbered(64, [LAST], 1, [(LAST, 9)], 0), [9])
        self.assertEqual(fit_numbered(1, [0, 1], 2, [], 2), [1, 0])
        self.assertEqual(how_many_ahead(1, [0, 1], 2, [], [1, 1]), 3)
        self.assertEqual(how_many_ahead(64, [LAST], 1, [], [LAST]), LAST)
        self.assertEqual(how_many_ahead(64, [LAST], 0, [], [LAST]), 1)
        self.assertEqual(how_many_ahead(64, [LAST], 0, [], [0]), 0)
        self.assertEqual(how_many_ahead(64, [LAST], 0, [(LAST, 1)], [5]), 0)
        self.assertEqual(how_many_fit(64, [LAST], 0, [(LAST, 1)]), 0)
        self.assertIs(fits(64, [0, 2 ** 63], 2, [(0, 0), (2 ** 63, 2 ** 63)]), True)
        self.assertIs(fits(64, [0, 2 ** 63], 2, [(0, 0), (2 ** 63, 2 ** 62)]), False)
        # no words but the known ones, and words that do not go with them
        known = [(place, 0) for place in SPOTS]
        self.assertEqual(fit_numbered(3, SPOTS, 5, known, 0), [0] * 5)
        self.assertEqual(how_many_ahead(3, SPOTS, 5, known, [0, 0, 0, 0, 1]), 1)
        self.assertEqual(how_many_ahead(3, SPOTS, 3, [(5, 7)], [0] * 5), 0)


class TestWrong(unittest.TestCase):
    CODE = [(InvalidWidth, NO_WIDTHS), (InvalidPlaces, no_places(3)), (InvalidNumber, NO_COUNTS)]
    KNOWN = CODE + [(InvalidKnown, no_known(3, SPOTS))]

    def test_known(self):
        for function in [fits, how_many_fit]:
            check_refusals(self, function, [3, SPOTS, 3, [(0, 1), (1, 3)]], self.KNOWN)
            check_refusals(self, function, [3, SPOTS, 0, []], self.KNOWN)

    def test_numbers(self):
        for known, first in [([(0, 1), (1, 3)], 4), ([], 256)]:
            wrong = self.KNOWN + [(InvalidNumber, NO_COUNTS + [first, first + 1, GREATEST])]
            check_refusals(self, fit_numbered, [3, SPOTS, 3, known, 0], wrong)

    def test_unfit(self):
        unfit = [(0, 0), (2, 1)]
        # behind what is no count, ahead of what is too much
        for number in NO_COUNTS:
            refused(self, fit_numbered, [3, SPOTS, 3, unfit, number], InvalidNumber, number)
        for number in [0, 1, 10 ** 9, GREATEST]:
            refused(self, fit_numbered, [3, SPOTS, 3, unfit, number], Unfit, 2)

    def test_words(self):
        for known in [[(0, 1), (1, 3)], [(0, 0), (2, 1)], []]:
            wrong = self.KNOWN + [(InvalidWords, no_words(3, 5) + [[]])]
            check_refusals(self, how_many_ahead, [3, SPOTS, 3, known, [1, 3, 5, 0, 0]], wrong)


if __name__ == "__main__":
    unittest.main()
