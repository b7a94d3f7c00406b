import random
import unittest
from functools import lru_cache

from anyplaces.errors import CodeError, InvalidDeed, InvalidNumber, InvalidPlaces, InvalidWidth, NothingToRedo, NothingToUndo, Unfit
from anyplaces.lines import line_of
from anyplaces.sizes import codeword_at, how_many_codewords
from anyplaces.store import Store, is_deed
from tests.plain import all_codewords
from tests.test_codes import bounds_of, sum_of
from tests.wrong import GREATEST, NO_COUNTS, NO_WIDTHS, ODD, check_judged, check_refusals, no_places, refused

FOUR = [0, 1, 2, 4]
LAST = 2 ** 64 - 1


@lru_cache(maxsize=None)
def listed_codewords(width, places, count):
    return sorted(all_codewords(width, list(places), count))


class PlainStore:
    """A store that lists all codewords, and keeps all states."""

    def __init__(self, width, places, count):
        self.wide = width
        self.states = [(tuple(places), count, ())]
        self.deeds = []
        self.taken_back = []

    def now(self):
        return self.states[-1]

    def fitting(self):
        places, count, known = self.now()
        # more coefficients than places give nothing new
        listed = listed_codewords(self.wide, places, min(count, len(places)))
        return [words for words in listed if all(words[places.index(place)] == word for place, word in known)]

    def told(self):
        fitting = self.fitting()
        return [place for place, words in zip(self.now()[0], zip(*fitting)) if len(set(words)) == 1] if fitting else []

    def can(self, deed):
        places, count, known = self.now()
        name, *rest = deed
        if name == "write":
            ends = bounds_of(self.wide, list(places), count)
            return len(rest[0]) == len(ends) and all(0 <= item < end for item, end in zip(rest[0], ends))
        if name == "set":
            return rest[0] in places and 0 <= rest[1] < 2 ** self.wide
        if name == "lose":
            return rest[0] in dict(known)
        if name == "fill":
            return self.fitting() != []
        if name == "put":
            return rest[0] not in places and 0 <= rest[0] < 2 ** self.wide
        if name == "take":
            return rest[0] in places and len(places) > 1
        return rest[0] >= 0

    def do(self, deed):
        places, count, known = self.now()
        name, *rest = deed
        told = dict(known)
        if name == "write":
            told = dict(zip(places, sum_of(self.wide, list(places), rest[0])))
        elif name == "set":
            told[rest[0]] = rest[1]
        elif name == "fill":
            first = self.fitting()[0]
            told = {place: first[places.index(place)] for place in self.told()}
        elif name == "put":
            places = tuple(sorted({*places, rest[0]}))
        elif name == "count":
            count = rest[0]
        else:
            told.pop(rest[0], None)
            if name == "take":
                places = tuple(place for place in places if place != rest[0])
        self.states.append((places, count, tuple(sorted(told.items()))))
        self.deeds.append(deed)
        self.taken_back = []

    def undo(self):
        self.taken_back.append((self.states.pop(), self.deeds.pop()))

    def redo(self):
        state, deed = self.taken_back.pop()
        self.states.append(state)
        self.deeds.append(deed)

    def twin(self):
        other = PlainStore(self.wide, [0], 0)
        other.states, other.deeds, other.taken_back = list(self.states), list(self.deeds), list(self.taken_back)
        return other


def drawn_deed(chance, plain):
    """A deed of any kind, which may be one that cannot be done."""
    places, count, known = plain.now()
    end = 2 ** plain.wide
    place = chance.choice([*places, chance.randint(-1, end)])
    name = chance.choice(["write", "set", "set", "set", "lose", "fill", "put", "put", "take", "count"])
    if name == "write":
        bounds = bounds_of(plain.wide, list(places), count) + chance.choice([[], [], [], [1]])
        return "write", [chance.randrange(bound + chance.choice([0, 0, 0, 1])) for bound in bounds]
    if name == "set":
        fitting = plain.fitting()
        if fitting and place in places and chance.random() < 0.7:
            return "set", place, chance.choice(fitting)[places.index(place)]
        return "set", place, chance.randint(0, end + 1) - 1
    if name == "fill":
        return ("fill",)
    if name == "put" and len(places) >= 4:
        name = "take"
    return name, chance.choice([0, 1, 2, 3, len(places), -1, GREATEST]) if name == "count" else place


class TestExample(unittest.TestCase):
    def test_store(self):
        store = Store(3, [0, 1, 2, 4], 2)
        self.assertEqual([store.choices(), store.told(), is_deed(store, ("fill",)), is_deed(store, ("lose", 0))],
                         [64, [], True, False])
        store.do(("set", 0, 5))
        store.do(("set", 2, 3))
        self.assertEqual([store.choices(), store.told(), store.known()], [2, [0, 2, 4], [(0, 5), (2, 3)]])
        store.do(("fill",))
        self.assertEqual([store.known(), is_deed(store, ("set", 1, 7)), is_deed(store, ("put", 1))],
                         [[(0, 5), (2, 3), (4, 1)], True, False])
        store.do(("set", 1, 6))
        self.assertEqual([store.choices(), store.told(), is_deed(store, ("fill",))], [0, [], False])
        store.undo()
        store.do(("set", 1, 4))
        self.assertEqual([store.choices(), store.told(), len(store.log()), store == store.copy()],
                         [1, [0, 1, 2, 4], 4, True])


class TestBesideAPlainOne(unittest.TestCase):
    def compare(self, store, plain):
        places, count, known = plain.now()
        self.assertEqual((store.width(), store.places(), store.count()), (plain.wide, list(places), count))
        self.assertEqual(store.known(), list(known))
        self.assertEqual(store.log(), plain.deeds)
        self.assertEqual(store.choices(), len(plain.fitting()))
        self.assertEqual(store.told(), plain.told())
        self.assertIs(store.choices() == 1, store.told() == store.places())

    def step(self, chance, store, plain, seen):
        turn = chance.random()
        if turn < 0.2:
            self.take_back(store, plain, seen)
        elif turn < 0.35:
            self.do_again(store, plain, seen)
        else:
            deed = drawn_deed(chance, plain)
            possible = plain.can(deed)
            seen.add((deed[0], possible))
            self.assertIs(is_deed(store, deed), possible, deed)
            if possible:
                self.assertIsNone(store.do(deed))
                plain.do(deed)
            else:
                refused(self, store.do, [deed], InvalidDeed, deed)
        self.compare(store, plain)

    def take_back(self, store, plain, seen):
        seen.add(("undo", plain.deeds != []))
        if plain.deeds:
            self.assertIsNone(store.undo())
            plain.undo()
        else:
            self.assertRaises(NothingToUndo, store.undo)

    def do_again(self, store, plain, seen):
        seen.add(("redo", plain.taken_back != []))
        if plain.taken_back:
            self.assertIsNone(store.redo())
            plain.redo()
        else:
            self.assertRaises(NothingToRedo, store.redo)

    def test_drawn_deeds(self):
        seen = set()
        for seed, code in enumerate([(1, [0], 1), (1, [0, 1], 2), (2, [0, 2], 1), (2, [0, 1, 2, 3], 2), (2, [1, 3], 5),
                                     (3, [0, 1, 2, 4], 2), (3, [0, 2, 4, 6], 3), (3, [5], 0)]):
            chance = random.Random(1900 + seed)
            store, plain = Store(*code), PlainStore(*code)
            self.compare(store, plain)
            for _ in range(150):
                self.step(chance, store, plain, seen)
        names = ["write", "set", "lose", "fill", "put", "take", "count", "undo", "redo"]
        self.assertEqual(seen, {(name, possible) for name in names for possible in [True, False]})

    def test_copies_go_their_own_way(self):
        for seed in range(12):
            chance = random.Random(2000 + seed)
            code = chance.choice([(2, [0, 1, 3], 2), (3, [0, 2, 3], 2), (1, [0, 1], 1)])
            pairs = [(Store(*code), PlainStore(*code))]
            for _ in range(60):
                if chance.random() < 0.15 and len(pairs) < 4:
                    store, plain = chance.choice(pairs)
                    pairs.append((store.copy(), plain.twin()))
                    self.assertEqual(pairs[-1][0], store)
                self.step(chance, *chance.choice(pairs), set())
                for store, plain in pairs:
                    self.compare(store, plain)
                for store, plain in pairs:
                    for other, other_plain in pairs:
                        same = plain.now() == other_plain.now() and plain.deeds == other_plain.deeds
                        self.assertIs(store == other, same)
                        self.assertIs(store != other, not same)

    def test_copies_do_again_what_was_undone(self):
        store = Store(3, FOUR, 2)
        for deed in [("set", 0, 5), ("set", 1, 6), ("count", 1), ("take", 2)]:
            store.do(deed)
        whole = store.copy()
        store.undo()
        store.undo()
        store.undo()
        twin = store.copy()
        # neither takes from the other what it can do again, or gives it more
        twin.redo()
        twin.redo()
        store.undo()
        self.assertEqual((store.log(), len(twin.log())), ([], 3))
        twin.redo()
        self.assertEqual(twin, whole)
        self.assertRaises(NothingToRedo, twin.redo)
        for many in [1, 2, 3, 4]:
            store.redo()
            self.assertEqual(len(store.log()), many)
        self.assertEqual(store, whole)
        self.assertRaises(NothingToRedo, store.redo)
        # a new deed in one leaves the other one what was undone
        store.undo()
        twin = store.copy()
        store.do(("lose", 0))
        self.assertRaises(NothingToRedo, store.redo)
        twin.redo()
        self.assertEqual(twin, whole)

    def test_all_back_and_again(self):
        for seed in range(6):
            chance = random.Random(2100 + seed)
            code = chance.choice([(2, [0, 1, 2, 3], 3), (3, [1, 2, 6], 2), (1, [1], 1)])
            store, plain = Store(*code), PlainStore(*code)
            states = [store.copy()]
            while len(states) < 25:
                deed = drawn_deed(chance, plain)
                if plain.can(deed):
                    store.do(deed)
                    plain.do(deed)
                    states.append(store.copy())
            for state in reversed(states[:-1]):
                store.undo()
                self.assertEqual(store, state)
                self.assertEqual((store.known(), store.log(), store.told()), (state.known(), state.log(), state.told()))
            self.assertEqual(store, Store(*code))
            self.assertRaises(NothingToUndo, store.undo)
            for state in states[1:]:
                store.redo()
                self.assertEqual(store, state)
            self.assertRaises(NothingToRedo, store.redo)
            self.compare(store, plain)


class TestDeeds(unittest.TestCase):
    def test_refused_changes_nothing(self):
        store = Store(3, FOUR, 2)
        for deed in [("set", 0, 5), ("set", 1, 6), ("set", 2, 1)]:
            store.do(deed)
        store.undo()
        store.undo()
        for deed in [("lose", 1), ("put", 4), ("take", 3), ("count", -1), ("write", [1]), ("set", 0, 8), ("fill", 1), None]:
            refused(self, store.do, [deed], InvalidDeed, deed)
        self.assertEqual((store.known(), store.log()), ([(0, 5)], [("set", 0, 5)]))
        # nothing that was undone is forgotten
        store.redo()
        store.redo()
        self.assertEqual(store.known(), [(0, 5), (1, 6), (2, 1)])
        self.assertEqual(store.choices(), 0)
        self.assertRaises(NothingToRedo, store.redo)
        self.assertEqual(len(store.log()), 3)

    def test_a_deed_forgets_what_was_undone(self):
        store = Store(3, FOUR, 2)
        store.do(("set", 0, 5))
        store.undo()
        # a deed that changes nothing does so, too
        store.do(("count", 2))
        self.assertRaises(NothingToRedo, store.redo)
        self.assertEqual(store.log(), [("count", 2)])
        store.undo()
        self.assertEqual(store, Store(3, FOUR, 2))

    def test_known_words_at_places_that_stay(self):
        store = Store(3, FOUR, 2)
        store.do(("write", [5, 3]))
        whole = [(0, 5), (1, 0), (2, 3), (4, 1)]
        self.assertEqual(store.known(), whole)
        store.do(("put", 3))
        self.assertEqual((store.places(), store.known()), ([0, 1, 2, 3, 4], whole))
        store.do(("take", 1))
        self.assertEqual((store.places(), store.known()), ([0, 2, 3, 4], [(0, 5), (2, 3), (4, 1)]))
        store.do(("count", 0))
        self.assertEqual((store.count(), store.known(), store.choices()), (0, [(0, 5), (2, 3), (4, 1)], 0))
        store.do(("put", 1))
        self.assertEqual((store.places(), store.known()), ([0, 1, 2, 3, 4], [(0, 5), (2, 3), (4, 1)]))
        self.assertEqual(store.log(), [("write", [5, 3]), ("put", 3), ("take", 1), ("count", 0), ("put", 1)])

    def test_fill_keeps_choices(self):
        chance = random.Random(191)
        for width in [2, 3, 8, 20, 64] * 6:
            places = sorted({chance.getrandbits(width) for _ in range(chance.randint(1, 10))})
            count = chance.choice([0, 1, 2, 3, len(places), GREATEST])
            store = Store(width, places, count)
            words = codeword_at(width, places, count, chance.randrange(how_many_codewords(width, places, count)))
            for place, word in chance.sample(list(zip(places, words)), chance.randint(0, len(places))):
                store.do(("set", place, word))
            choices, told = store.choices(), store.told()
            self.assertGreater(choices, 0)
            store.do(("fill",))
            self.assertEqual((store.choices(), store.told()), (choices, told))
            self.assertEqual(store.known(), [(place, word) for place, word in zip(places, words) if place in told])
            self.assertIs(choices == 1, told == places)

    def test_edges(self):
        store = Store(64, [LAST], GREATEST)
        self.assertEqual((store.width(), store.places(), store.count(), store.known()), (64, [LAST], GREATEST, []))
        self.assertEqual((store.choices(), store.told(), store.log()), (2 ** 64, [], []))
        self.assertIs(is_deed(store, ("take", LAST)), False)
        self.assertIs(is_deed(store, ("write", [LAST])), True)
        self.assertIs(is_deed(store, ("write", [2 ** 64])), False)
        store.do(("write", [LAST]))
        self.assertEqual((store.known(), store.choices(), store.told()), ([(LAST, LAST)], 1, [LAST]))
        store.do(("count", 0))
        self.assertEqual((store.choices(), store.told()), (0, []))
        self.assertIs(is_deed(store, ("write", [])), True)
        store.do(("write", []))
        self.assertEqual((store.known(), store.choices()), ([(LAST, 0)], 1))
        # the last place that is free, and the only one
        store = Store(1, [1], 1)
        store.do(("put", 0))
        self.assertEqual(store.places(), [0, 1])
        for place in [0, 1, 2, -1]:
            self.assertIs(is_deed(store, ("put", place)), False)
        store.do(("take", 1))
        self.assertIs(is_deed(store, ("take", 0)), False)
        self.assertEqual(store.places(), [0])
        neighbours = list(range(64))
        store = Store(64, neighbours, 64)
        self.assertEqual(store.choices(), how_many_codewords(64, neighbours, 64))
        self.assertEqual(Store(64, neighbours, 0).told(), neighbours)
        self.assertEqual(Store(64, neighbours, 0).choices(), 1)
        store = Store(6, neighbours, 3)
        self.assertEqual([is_deed(store, ("put", place)) for place in [0, 63, 64]], [False] * 3)

    def test_unfit_ones(self):
        store = Store(3, [0, 4], 2)
        store.do(("set", 0, 1))
        store.do(("set", 4, 2))
        self.assertEqual((store.choices(), store.told(), is_deed(store, ("fill",))), (0, [], False))
        store.do(("lose", 0))
        self.assertEqual((store.choices(), store.told(), is_deed(store, ("fill",))), (2, [4], True))


class TestEquality(unittest.TestCase):
    def test_unlike_ones(self):
        one = Store(3, FOUR, 2)
        self.assertEqual(one, Store(3, FOUR, 2))
        for other in [Store(4, FOUR, 2), Store(3, [0, 1, 2], 2), Store(3, [0, 1, 2, 5], 2), Store(3, FOUR, 3)]:
            self.assertIs(one == other, False)
            self.assertIs(one != other, True)

    def test_logs(self):
        one, other = Store(3, FOUR, 2), Store(3, FOUR, 2)
        one.do(("set", 0, 5))
        self.assertIs(one == other, False)
        other.do(("set", 0, 5))
        self.assertIs(one == other, True)
        # the same words, but by other deeds
        other.undo()
        other.do(("set", 0, 4))
        other.do(("set", 0, 5))
        self.assertEqual(one.known(), other.known())
        self.assertIs(one == other, False)
        one.do(("write", [1, 1]))
        other = Store(3, FOUR, 2)
        other.do(("set", 0, 5))
        other.do(("write", [1, 0]))
        self.assertIs(one == other, False)

    def test_whatever_can_be_done_again(self):
        one, other = Store(3, FOUR, 2), Store(3, FOUR, 2)
        one.do(("set", 0, 5))
        one.undo()
        self.assertIs(one == other, True)
        self.assertIs(one.copy() == other.copy(), True)
        one.redo()
        self.assertIs(one == other, False)

    def test_other_things(self):
        store = Store(3, FOUR, 2)
        for other in ODD + [3, 0, line_of(3, FOUR, 2, []), (3, FOUR, 2, []), [3, FOUR, 2]]:
            if not isinstance(other, Store):
                self.assertIs(store == other, False)
                self.assertIs(other == store, False)
                self.assertIs(store != other, True)


class TestLists(unittest.TestCase):
    def test_handed_in(self):
        places = [0, 1, 2, 4]
        store = Store(3, places, 2)
        places.append(5)
        places[0] = 7
        self.assertEqual(store.places(), FOUR)
        items = [5, 3]
        deed = ("write", items)
        store.do(deed)
        items[0] = 0
        items.append(9)
        self.assertEqual(store.log(), [("write", [5, 3])])
        twin = store.copy()
        store.undo()
        store.redo()
        self.assertEqual(store.log(), [("write", [5, 3])])
        self.assertEqual(store.known(), [(0, 5), (1, 0), (2, 3), (4, 1)])
        self.assertEqual(twin, store)

    def test_returned(self):
        store = Store(3, FOUR, 2)
        store.do(("write", [5, 3]))
        store.do(("write", [5, 3]))
        twin = store.copy()
        log = store.log()
        self.assertIsNot(log[0][1], log[1][1])
        kept = (store.places(), store.known(), store.log(), store.told(), store.choices())
        for returned in [store.places(), store.known(), log, store.told(), log[0][1], twin.log()[1][1], twin.places(), twin.known()]:
            returned.append("changed")
            returned.reverse()
        for one in [store, twin]:
            self.assertEqual((one.places(), one.known(), one.log(), one.told(), one.choices()), kept)
        self.assertEqual(store, twin)
        store.undo()
        self.assertEqual(store.log(), [("write", [5, 3])])
        store.redo()
        self.assertEqual((store.places(), store.known(), store.log(), store.told(), store.choices()), kept)

    def test_put_and_take_leave_copies(self):
        store = Store(3, FOUR, 2)
        twin = store.copy()
        store.do(("put", 7))
        twin.do(("take", 0))
        self.assertEqual((store.places(), twin.places()), ([0, 1, 2, 4, 7], [1, 2, 4]))
        store.undo()
        twin.undo()
        self.assertEqual(store, twin)
        self.assertEqual(store.places(), FOUR)


class TestWrong(unittest.TestCase):
    def test_stores(self):
        check_refusals(self, Store, [3, FOUR, 2], [
            (InvalidWidth, NO_WIDTHS), (InvalidPlaces, no_places(3)), (InvalidNumber, NO_COUNTS)])

    def no_deeds(self):
        """Values that are no deeds of a store of the places 0, 1, 2 and 4, of which the words at 0 and 1 are known."""
        wrong = ODD + [0, 1, -1, GREATEST, [], "fill", "write", ["fill"], ["set", 0, 5], {"set": 0}, (("fill",),), ("set",),
                       ("",), ("Fill",), ("fill ",), ("undo",), ("redo",), ("copy",), (None,), (0,), (True,), (["fill"],),
                       ("fill", None), ("fill", []), ("fill", "fill"), (), ("fill",) * 2, (Store(3, FOUR, 2),), ("store", 1)]
        no_numbers = [None, True, False, "0", [0], (0,), {}, [], (), Unfit(), -1, -GREATEST, Store(3, FOUR, 2)]
        for name, rights in [("lose", [3, 2, 5, 8]), ("put", [0, 1, 2, 4, 8, 9, GREATEST]), ("take", [3, 5, 8, GREATEST]),
                             ("count", [])]:
            wrong += [(name, value) for value in no_numbers + rights] + [(name,), (name, 0, 0), (name, 3, 3), [name, 1]]
        wrong += [("set", value, 1) for value in no_numbers + [3, 8, GREATEST]]
        wrong += [("set", 1, value) for value in no_numbers + [8, 9, GREATEST]]
        wrong += [("set", 1), ("set", 1, 1, 1), ("set", (1, 1)), ["set", 1, 1], (1, "set", 1), ("set", [1, 1])]
        no_items = ODD + [0, 1, [], [0], [0, 0, 0], (0, 0), [8, 0], [0, 8], [-1, 0], [0, -1], [True, 0], [0, None], [0, "0"],
                          [0, [0]], [0, GREATEST], {0: 0, 1: 0}, "00", [Store(3, FOUR, 2), 0]]
        return wrong + [("write", value) for value in no_items] + [("write",), ("write", 0, 0), ("write", [0, 0], 0)]

    def test_deeds(self):
        store = Store(3, FOUR, 2)
        store.do(("set", 0, 5))
        store.do(("set", 1, 6))
        before = store.copy()
        rights = [("write", [7, 7]), ("write", [0, 0]), ("set", 0, 5), ("set", 4, 0), ("set", 2, 7), ("lose", 0), ("lose", 1),
                  ("fill",), ("put", 3), ("put", 5), ("put", 7), ("take", 0), ("take", 4), ("count", 0), ("count", 2),
                  ("count", GREATEST)]
        wrongs = self.no_deeds()
        check_judged(self, is_deed, [store], rights, wrongs)
        for deed in wrongs:
            refused(self, store.do, [deed], InvalidDeed, deed)
        self.assertEqual(store, before)
        for deed in rights:
            twin = store.copy()
            self.assertIsNone(twin.do(deed))
            self.assertEqual(twin.log(), store.log() + [deed])
        self.assertEqual(store, before)

    def test_no_store(self):
        for value in ODD + [0, [], (3, FOUR, 2), "Store", InvalidDeed(1)]:
            if not isinstance(value, Store):
                for deed in [("fill",), None]:
                    refused(self, is_deed, [value, deed], InvalidDeed, value)

    def test_nothing_left(self):
        store = Store(3, FOUR, 2)
        for function, kind in [(store.undo, NothingToUndo), (store.redo, NothingToRedo)]:
            with self.assertRaises(CodeError) as caught:
                function()
            self.assertIs(caught.exception.__class__, kind)
        self.assertEqual(store, Store(3, FOUR, 2))


if __name__ == "__main__":
    unittest.main()
