import random
import unittest

from anyplaces.codes import codeword
from anyplaces.distance import distance
from anyplaces.errors import InvalidKnown, InvalidNumber, InvalidPlaces, InvalidWidth, InvalidWords, Unfit
from anyplaces.mending import (
    block_counts, clean_block, is_mended, mendable, mendable_left, mended, mended_known, wrong_at,
)
from anyplaces.sizes import codeword_at, how_many_codewords, item_count
from anyplaces.telling import is_telling
from tests.plain import all_codewords, all_words, parts_of, unlike, words_at_part
from tests.test_codes import random_code
from tests.test_fitting import no_known
from tests.test_telling import CODES
from tests.wrong import (
    GREATEST, NO_COUNTS, NO_WIDTHS, ODD, check_judged, check_refusals, no_parts, no_places, no_words, refused,
)

FOUR = [0, 1, 2, 4]
SIX = [0, 1, 2, 3, 4, 5]
EIGHT = [0, 1, 2, 3, 4, 5, 6, 7]
LAST = 2 ** 64 - 1
NEIGHBOURS = [(1, [0, 1], 1), (2, [0, 1, 2, 3], 1), (2, [0, 1, 2, 3], 2), (2, [1, 2, 3], 1), (3, [2, 3, 4, 5, 6, 7], 1),
              (3, EIGHT, 2), (3, SIX, 2), (3, [3, 4, 5, 6, 7], 2), (3, EIGHT, 3), (1, [0, 1], 2), (3, [5], 1)]
# codes of which some have greater distances
SPREAD = CODES + NEIGHBOURS + [(3, [0, 1, 3, 4, 7], 1), (3, [0, 2, 3, 5, 7], 2), (3, [0, 2, 4, 6, 7], 1), (4, FOUR, 1)]


def near_ones(code, listed, words):
    """All near codewords, by listing."""
    least = least_by_weight(listed)
    return [list(one) for one in listed if least is None or 2 * unlike(one, words) < least]


def least_by_weight(listed):
    return min([len([word for word in words if word]) for words in listed if any(words)], default=None)


def some_words(chance, code, listed, many):
    """Codewords changed at some places, and words of any kind."""
    width, places, _ = code
    found = []
    for _ in range(many):
        words = list(chance.choice(listed))
        for at in chance.sample(range(len(places)), chance.randint(0, len(places))):
            words[at] = chance.choice([chance.getrandbits(width), words[at] ^ 2 ** (width - 1), words[at]])
        found.append(words)
    return found


def spoiled(chance, width, words, many):
    """Words with just so many wrong ones, and these places' numbers."""
    ats = chance.sample(range(len(words)), many)
    wrong = list(words)
    for at in ats:
        wrong[at] = (wrong[at] + chance.choice([1, 2 ** (width - 1), chance.randint(1, 2 ** width - 1)])) % 2 ** width
    return wrong, ats


class TestExamples(unittest.TestCase):
    def test_mended(self):
        self.assertEqual(
            [mendable(3, SIX, 2), mendable(3, EIGHT, 2), mendable(3, EIGHT, 4), mendable(3, SIX, 0), mendable(3, FOUR, 2)],
            [1, 1, 0, 6, 0])
        self.assertEqual(
            [mended(3, SIX, 2, [0, 1, 7, 3, 4, 5]), wrong_at(3, SIX, 2, [0, 1, 7, 3, 4, 5]),
             mended(3, SIX, 2, [5, 1, 2, 3, 4, 4]), mended(3, SIX, 0, [7, 7, 7, 7, 7, 7])],
            [[0, 1, 2, 3, 4, 5], [2], None, [0, 0, 0, 0, 0, 0]])
        self.assertEqual(
            [is_mended(3, SIX, 2, [0, 1, 7, 3, 4, 5], [0, 1, 2, 3, 4, 5]),
             is_mended(3, SIX, 2, [0, 1, 7, 3, 4, 5], [0, 1, 7, 3, 4, 5])],
            [True, False])

    def test_blocks(self):
        strange = [0, 1, 4, 2, 0, 1, 4, 1]
        self.assertEqual(
            [block_counts(3, SIX, 2, [5, 1, 2, 3, 4, 5]), clean_block(3, SIX, 2, [5, 1, 2, 3, 4, 5]),
             block_counts(3, EIGHT, 4, strange), clean_block(3, EIGHT, 4, strange)],
            [[4, 1, 1], 1, [None, 1], None])

    def test_left(self):
        known = [(1, 1), (2, 2), (3, 7), (4, 4), (5, 5), (6, 6), (7, 7)]
        self.assertEqual(
            [mendable_left(3, EIGHT, 2, [1, 2, 3, 4, 5, 6, 7]), mendable_left(3, EIGHT, 2, [0, 2, 4, 6]),
             mended_known(3, EIGHT, 2, known)],
            [1, None, [0, 1, 2, 3, 4, 5, 6, 7]])


class TestMended(unittest.TestCase):
    def check(self, code, words, near):
        self.assertLessEqual(len(near), 1)
        found = mended(*code, words)
        self.assertEqual(found, near[0] if near else None)
        wrong = None if not near else [place for place, word, right in zip(code[1], words, near[0]) if word != right]
        self.assertEqual(wrong_at(*code, words), wrong)
        self.assertIs(is_mended(*code, words, near[0] if near else words), len(near) == 1)

    def test_all_words(self):
        for code in SPREAD:
            if code[0] * len(code[1]) <= 8:
                listed = sorted(all_codewords(*code))
                for words in all_words(*code[:2]):
                    self.check(code, list(words), near_ones(code, listed, words))

    def test_some_words(self):
        chance = random.Random(111)
        for code in SPREAD:
            listed = sorted(all_codewords(*code))
            for words in some_words(chance, code, listed, 12):
                self.check(code, words, near_ones(code, listed, words))
                for value in chance.sample(listed, min(4, len(listed))):
                    value = list(value)
                    self.assertIs(is_mended(*code, words, value), value in near_ones(code, listed, words))

    def test_mendable(self):
        for code in SPREAD:
            least = least_by_weight(all_codewords(*code))
            self.assertEqual(mendable(*code), len(code[1]) if least is None else (least - 1) // 2)
        chance = random.Random(112)
        for width in [2, 4, 8, 20, 64] * 10:
            code = random_code(chance, width)
            least = distance(*code)
            self.assertEqual(mendable(*code), len(code[1]) if least is None else (least - 1) // 2)

    def test_just_so_many_wrong(self):
        chance = random.Random(113)
        codes = [random_code(chance, width) for width in [2, 4, 8, 20, 64] * 8]
        for _ in range(30):
            places = sorted(chance.sample(range(2 ** chance.choice([4, 5, 9])), 12))
            codes.append((chance.choice([9, 20, 64]), places, chance.choice([1, 2, 3, 4, 5])))
        codes += [(64, list(range(first, first + 64)), count) for first in [0, 2 ** 64 - 64] for count in [1, 2, 3, 7, 20]]
        codes += [(6, list(range(many)), count) for many in [13, 30, 64] for count in [1, 2, 5, 9]]
        for code in codes:
            words = codeword_at(*code, chance.randrange(how_many_codewords(*code)))
            for many in {0, 1, mendable(*code) // 2, mendable(*code)}:
                if many > mendable(*code):
                    continue
                wrong, ats = spoiled(chance, code[0], words, many)
                self.assertEqual(mended(*code, wrong), words)
                self.assertEqual(wrong_at(*code, wrong), [code[1][at] for at in sorted(ats)] if code[2] else
                                 [place for place, word in zip(code[1], wrong) if word])
                self.assertIs(is_mended(*code, wrong, words), True)

    def test_half_of_the_distance(self):
        # 64 neighbours, 8 items: codewords are unlike at 8 places at least
        neighbours = list(range(64))
        light = [0] * 64
        for at in range(7, 64, 8):
            light[at] = 2 ** 63
        self.assertEqual(distance(64, neighbours, 8), 8)
        self.assertEqual(mended(64, neighbours, 8, light), light)
        half = light[:32] + [0] * 32
        self.assertIsNone(mended(64, neighbours, 8, half))
        self.assertIsNone(wrong_at(64, neighbours, 8, half))
        self.assertIsNone(clean_block(64, neighbours, 8, half))
        self.assertIs(is_mended(64, neighbours, 8, half, light), False)
        self.assertIs(is_mended(64, neighbours, 8, half, [0] * 64), False)
        nearer = light[:24] + [0] * 40
        self.assertEqual(mended(64, neighbours, 8, nearer), [0] * 64)
        self.assertEqual(wrong_at(64, neighbours, 8, nearer), [7, 15, 23])
        farther = light[:40] + [0] * 24
        self.assertEqual(mended(64, neighbours, 8, farther), light)
        self.assertEqual(wrong_at(64, neighbours, 8, farther), [47, 55, 63])
        # the same for places of any kind
        twelve = [0, 1, 3, 4, 5, 7, 8, 9, 11, 12, 13, 15]
        words = [5] * 12
        self.assertEqual(mended(4, twelve, 1, [9, 8, 7, 6, 4] + words[5:]), words)
        self.assertIsNone(mended(4, twelve, 1, [9] * 6 + words[6:]))

    def test_edges(self):
        self.assertEqual(mended(64, [LAST], 1, [7]), [7])
        self.assertEqual(wrong_at(64, [LAST], 1, [7]), [])
        self.assertEqual(mended(64, [LAST], 0, [7]), [0])
        self.assertEqual(wrong_at(64, [LAST], 0, [7]), [LAST])
        self.assertEqual(wrong_at(64, [LAST], 0, [0]), [])
        self.assertEqual(mendable(64, [LAST], 0), 1)
        self.assertEqual(mendable(64, [LAST], GREATEST), 0)
        self.assertIs(is_mended(64, [LAST], 0, [7], [0]), True)
        self.assertIs(is_mended(64, [LAST], 0, [7], [7]), False)
        self.assertEqual(mendable(64, list(range(64)), 1), 31)
        self.assertEqual(mendable(64, list(range(64)), 0), 64)
        self.assertIsNone(mended(1, [0, 1], 1, [0, 1]))
        self.assertEqual(mended(1, [0, 1], 2, [0, 1]), [0, 1])
        # the first and the last word are no neighbours
        ring = [0, 1, 2, 2 ** 64 - 2, 2 ** 64 - 1]
        self.assertEqual(mended(64, ring, 1, [4, 4, 9, 4, 8]), [4] * 5)
        refused(self, block_counts, [64, ring, 1, [4] * 5], InvalidPlaces, ring)

    def test_any_value(self):
        words = [0, 1, 7, 3, 4, 5]
        wrongs = ODD + [words, [1, 2, 3, 4, 5, 6], [0] * 6, [0, 1, 2, 3, 4], [0, 1, 2, 3, 4, 5, 6], (0, 1, 2, 3, 4, 5), 0, [],
                        [False, True, 2, 3, 4, 5], [0, 1, 2, 3, 4, 13], [0, 1, 2, 3, 4, -3], [0, 1, 2, 3, 4, None],
                        [0, 1, 2, 3, 4, "5"], {place: place for place in SIX}, [0, 1, 2, 3, 4, Unfit(5)], GREATEST]
        check_judged(self, is_mended, [3, SIX, 2, words], [[0, 1, 2, 3, 4, 5]], wrongs)
        check_judged(self, is_mended, [3, SIX, 0, words], [[0] * 6], ODD + [words, [0] * 5, [0] * 7, [0, 0, 0, 0, 0, 4]])


class TestBlocks(unittest.TestCase):
    def counts_by_listing(self, code, listed, words):
        places = code[1]
        many = item_count(*code)
        found = []
        for number in range(len(places) // many):
            block = places[number * many:number * many + many]
            right = [one for one in listed if words_at_part(one, places, block) == words_at_part(words, places, block)]
            self.assertLessEqual(len(right), 1)
            found.append(unlike(right[0], words) if right else None)
        return found

    def test_listed(self):
        chance = random.Random(114)
        for code in NEIGHBOURS:
            listed = sorted(all_codewords(*code))
            least = least_by_weight(listed)
            for words in some_words(chance, code, listed, 25):
                counts = self.counts_by_listing(code, listed, words)
                self.assertEqual(block_counts(*code, words), counts)
                clean = [at for at, many in enumerate(counts) if many is not None and 2 * many < least]
                self.assertEqual(clean_block(*code, words), clean[0] if clean else None)
                self.assertIs(clean != [], near_ones(code, listed, words) != [])

    def test_more_blocks_than_wrong_words(self):
        for many in range(1, 65):
            for items in range(1, many + 1):
                self.assertGreater(many // items, mendable(64, list(range(many)), items))

    def test_wrong_words(self):
        chance = random.Random(115)
        for width, many, count in [(64, 64, 3), (64, 64, 7), (8, 50, 2), (10, 37, 5), (64, 64, 1), (6, 64, 30)]:
            first = chance.randint(0, 2 ** width - many)
            code = (width, list(range(first, first + many)), count)
            words = codeword_at(*code, chance.randrange(how_many_codewords(*code)))
            wrong, ats = spoiled(chance, width, words, mendable(*code))
            items = item_count(*code)
            blocks = [{*range(at, at + items)} for at in range(0, many - items + 1, items)]
            counts = block_counts(*code, wrong)
            self.assertEqual(len(counts), len(blocks))
            for block, told in zip(blocks, counts):
                if not block & set(ats):
                    self.assertEqual(told, len(ats))
            number = clean_block(*code, wrong)
            self.assertEqual(counts[number], len(ats))
            self.assertEqual(mended(*code, wrong), words)

    def test_edges(self):
        self.assertEqual(block_counts(64, [LAST], 1, [5]), [0])
        self.assertEqual(clean_block(64, [LAST], GREATEST, [5]), 0)
        # what is left behind the last whole block is in none
        self.assertEqual(block_counts(3, [0, 1, 2, 3, 4], 2, [0, 1, 2, 3, 0]), [1, 1])
        self.assertIsNone(clean_block(3, [0, 1, 2, 3, 4], 2, [0, 1, 2, 3, 0]))
        self.assertEqual(clean_block(3, [0, 1, 2, 3, 4], 2, [0, 1, 2, 3, 4]), 0)
        self.assertEqual(block_counts(64, list(range(64)), 64, [0] * 64), [0])
        self.assertEqual(block_counts(64, list(range(64)), 64, [0] * 63 + [1]), [None])
        self.assertEqual(block_counts(64, list(range(64)), 33, [0] * 64), [0])
        self.assertEqual(block_counts(64, list(range(64)), 1, [3] * 63 + [4]), [1] * 63 + [63])


class TestLeft(unittest.TestCase):
    def test_listed(self):
        chance = random.Random(116)
        for code in SPREAD:
            width, places, count = code
            listed = sorted(all_codewords(*code))
            for left in parts_of(places):
                read = [words_at_part(words, places, left) for words in listed]
                # by the difference to the codeword that is 0 everywhere
                least = min([len([word for word in some if word]) for some, words in zip(read, listed) if any(words)],
                            default=None)
                wanted = len(left) if least is None else None if least == 0 else (least - 1) // 2
                self.assertEqual(mendable_left(*code, left), wanted)
                for _ in range(3):
                    words = list(chance.choice(read))
                    for at in range(len(left)):
                        if chance.random() < 0.3:
                            words[at] = chance.getrandbits(width)
                    near = [list(one) for one, some in zip(listed, read) if least is None or 2 * unlike(some, words) < least]
                    self.assertLessEqual(len(near), 1)
                    self.assertEqual(mended_known(*code, list(zip(left, words))), near[0] if near else None)

    def test_larger_codes(self):
        chance = random.Random(117)
        codes = [(64, list(range(64)), count) for count in [1, 2, 5, 12]]
        codes += [(20, sorted(chance.sample(range(64), 30)), count) for count in [1, 2, 3, 4]]
        for code in codes:
            width, places, count = code
            words = codeword_at(*code, chance.randrange(how_many_codewords(*code)))
            lefts = [places[3:15], sorted(chance.sample(places, 12)), places[-10:]]
            lefts += [places[5:60]] if len(places) == 64 else []
            for left in lefts:
                many = mendable_left(*code, left)
                telling = is_telling(*code, left)
                self.assertIs(many is not None, telling)
                read = list(words_at_part(words, places, left))
                if not telling:
                    self.assertIsNone(mended_known(*code, list(zip(left, read))))
                    continue
                self.assertEqual(many, (distance(width, left, count) - 1) // 2)
                wrong, _ = spoiled(chance, width, read, many)
                self.assertEqual(mended_known(*code, list(zip(left, wrong))), words)

    def test_edges(self):
        self.assertIsNone(mendable_left(64, [LAST], 1, []))
        self.assertIsNone(mended_known(64, [LAST], 1, []))
        self.assertEqual(mendable_left(64, [LAST], 0, []), 0)
        self.assertEqual(mendable_left(64, [LAST], 0, [LAST]), 1)
        self.assertEqual(mended_known(64, [LAST], 0, []), [0])
        self.assertEqual(mended_known(64, [LAST], 0, [(LAST, 9)]), [0])
        self.assertEqual(mended_known(64, [LAST], GREATEST, [(LAST, 9)]), [9])
        self.assertEqual(mendable_left(3, SIX, 0, [1, 4]), 2)
        neighbours = list(range(64))
        self.assertEqual(mendable_left(64, neighbours, 1, neighbours), 31)
        self.assertEqual(mendable_left(64, neighbours, 1, neighbours[:5]), 2)
        self.assertEqual(mendable_left(64, neighbours, 2, [0, 1]), 0)
        self.assertEqual(mended_known(64, neighbours, 2, [(0, 5), (1, 6)]), [5 + at for at in range(64)])
        self.assertIsNone(mended_known(1, [0, 1], 1, [(0, 0), (1, 1)]))
        self.assertEqual(codeword(64, neighbours, 2, [5, 1]), [5 + at for at in range(64)])


class TestWrong(unittest.TestCase):
    CODE = [(InvalidWidth, NO_WIDTHS), (InvalidPlaces, no_places(3)), (InvalidNumber, NO_COUNTS)]
    WORDS = (InvalidWords, no_words(3, 6) + [[]])

    def test_words(self):
        check_refusals(self, mendable, [3, SIX, 2], self.CODE)
        words = [0, 1, 7, 3, 4, 5]
        for count in [0, 2]:
            for function in [mended, wrong_at]:
                check_refusals(self, function, [3, SIX, count, words], self.CODE + [self.WORDS])
            for value in [words, None]:
                check_refusals(self, is_mended, [3, SIX, count, words, value], self.CODE + [self.WORDS])

    def test_blocks(self):
        no_neighbours = no_places(3) + [[0, 1, 2, 3, 4, 6], [0, 2], [0, 1, 3], [0, 7], [0, 1, 6, 7]]
        wrong = [(InvalidWidth, NO_WIDTHS), (InvalidPlaces, no_neighbours), (InvalidNumber, NO_COUNTS + [0]), self.WORDS]
        for function in [block_counts, clean_block]:
            check_refusals(self, function, [3, SIX, 2, [0, 1, 7, 3, 4, 5]], wrong)

    def test_left(self):
        no_left = (InvalidPlaces, no_parts(3, FOUR))
        no_words_known = (InvalidKnown, no_known(3, FOUR))
        for count in [0, 2]:
            check_refusals(self, mendable_left, [3, FOUR, count, [0, 1]], self.CODE + [no_left])
            check_refusals(self, mended_known, [3, FOUR, count, [(0, 1)]], self.CODE + [no_words_known])


if __name__ == "__main__":
    unittest.main()
