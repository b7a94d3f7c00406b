"""A live store: a code and known words of it, which deeds change."""

from anyplaces.deeds import Kept, can_be_done, how_many_choices, kept_after, known_of, same_deed, told_words
from anyplaces.demands import need_code
from anyplaces.errors import InvalidDeed, NothingToRedo, NothingToUndo
from anyplaces.plans import Plan


class Store:
    """A code and known words of it, at first none, and the deeds that were done."""

    def __init__(self, width, places, count):
        need_code(width, places, count)
        self._kept = Kept(Plan(width, list(places), count), {})
        # each deed stands with what was kept ahead of it, or behind it once it is taken back
        self._done = []
        self._undone = []

    def __eq__(self, other):
        return isinstance(other, Store) and kept_now(self._kept, self._done) == kept_now(other._kept, other._done)

    def width(self):
        """Returns the width."""
        return self._kept.plan.code_width

    def places(self):
        """Returns the places that are kept now."""
        return list(self._kept.plan.code_places)

    def count(self):
        """Returns the count that is kept now."""
        return self._kept.plan.code_count

    def known(self):
        """Returns the known words that are kept now."""
        return known_of(self._kept)

    def do(self, deed):
        """Does a deed, and forgets what was undone."""
        if not can_be_done(self._kept, deed):
            raise InvalidDeed(deed)
        behind = kept_after(self._kept, deed)
        self._done.append((self._kept, same_deed(deed)))
        self._kept = behind
        self._undone = []

    def undo(self):
        """Takes the last deed back that is not taken back yet."""
        if len(self._done) == 0:
            raise NothingToUndo()
        kept, deed = self._done.pop()
        self._undone.append((self._kept, deed))
        self._kept = kept

    def redo(self):
        """Does again what was taken back last."""
        if len(self._undone) == 0:
            raise NothingToRedo()
        kept, deed = self._undone.pop()
        self._done.append((self._kept, deed))
        self._kept = kept

    def log(self):
        """Returns the deeds that are done and not taken back, the first one first."""
        return [same_deed(deed) for _, deed in self._done]

    def copy(self):
        """Returns a store that is equal to this one, can undo and redo the same, and goes its own way."""
        twin = Store(self._kept.plan.code_width, self._kept.plan.code_places, self._kept.plan.code_count)
        twin._kept = self._kept
        twin._done = list(self._done)
        twin._undone = list(self._undone)
        return twin

    def choices(self):
        """Returns how many codewords have the known words."""
        return how_many_choices(self._kept)

    def told(self):
        """Returns the list of the places at which all codewords with the known words have the same word."""
        words = told_words(self._kept)
        return [] if words is None else list(words)


def kept_now(kept, done):
    """Returns all by which two stores are told apart."""
    plan = kept.plan
    return plan.code_width, plan.code_places, plan.code_count, kept.words, [deed for _, deed in done]


def is_deed(store, value):
    """Returns whether a value is a deed that can be done now."""
    if not isinstance(store, Store):
        raise InvalidDeed(store)
    return can_be_done(store._kept, value)
