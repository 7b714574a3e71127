"""Workshops: arms under names, and wishes that always hold."""

from drawarms.arms import require_arm
from drawarms.errors import Broken, InUse, InvalidIndex, InvalidName, InvalidWish, NothingToUndo, UnknownName
from drawarms.names import is_name
from drawarms.wholes import is_whole
from drawarms.wishes import does_hold, is_wish, names_in


class Trial:
    """What a `with` statement takes a workshop back to, if its block ends with an exception."""

    def __init__(self, shop):
        self._shop = shop
        self._arms = {}
        self._wishes = ()
        self._past = ()

    def __eq__(self, other):
        # Whatever the other one says of this.
        return self is other

    def __enter__(self):
        shop = self._shop
        self._arms = shop._arms
        self._wishes = shop._wishes
        self._past = shop._past
        return shop

    def __exit__(self, kind, value, trace):
        shop = self._shop
        if kind is not None:
            shop._arms = self._arms
            shop._wishes = self._wishes
            shop._past = self._past


class Workshop:
    """Arms under names, wishes that always hold, and the changes that can be taken back."""

    def __init__(self):
        # None of these is changed in place, so that an earlier state is kept by keeping them.
        self._arms = {}
        self._wishes = ()
        self._past = ()

    def __eq__(self, other):
        # Whatever the other one says of this.
        return self is other

    def __len__(self):
        return len(self._past)

    def __bool__(self):
        return True

    def __contains__(self, name):
        return isinstance(name, str) and name in self._arms

    @property
    def names(self):
        """The ascending tuple of the names."""
        return tuple(sorted(list(self._arms)))

    @property
    def wishes(self):
        """The tuple of the wishes as they were passed."""
        return self._wishes

    def _require_here(self, name):
        if name not in self:
            raise UnknownName(name)

    def _change(self, arms, wishes):
        self._past = self._past + ((self._arms, self._wishes),)
        self._arms = arms
        self._wishes = wishes

    def put(self, name, arm):
        """Put an arm under a name, or another one in its place."""
        if not is_name(name):
            raise InvalidName(name)
        require_arm(arm)
        arms = dict(self._arms)
        arms[name] = arm
        for index, wish in enumerate(self._wishes):
            if name in names_in(wish) and not does_hold(wish, arms):
                raise Broken(index)
        self._change(arms, self._wishes)

    def drop(self, name):
        """Take away the arm under a name."""
        self._require_here(name)
        for index, wish in enumerate(self._wishes):
            if name in names_in(wish):
                raise InUse(index)
        arms = dict(self._arms)
        del arms[name]
        self._change(arms, self._wishes)

    def wish(self, wish):
        """Make a wish, which holds from now on."""
        if not is_wish(wish):
            raise InvalidWish(wish)
        for name in names_in(wish):
            self._require_here(name)
        if not does_hold(wish, self._arms):
            raise Broken(len(self._wishes))
        self._change(self._arms, self._wishes + (wish,))

    def lift(self, index):
        """Take a wish away."""
        if not is_whole(index) or not 0 <= index < len(self._wishes):
            raise InvalidIndex(index)
        self._change(self._arms, self._wishes[:index] + self._wishes[index + 1:])

    def named(self, name):
        """The arm under a name."""
        self._require_here(name)
        return self._arms[name]

    def undo(self):
        """Take back the last change."""
        if len(self._past) == 0:
            raise NothingToUndo()
        self._arms, self._wishes = self._past[-1]
        self._past = self._past[:-1]

    def trial(self):
        """For a `with` statement: if its block ends with an exception, the workshop is as it was when it began."""
        return Trial(self)

    def tried(self, action):
        """Call a function with the workshop within such a statement, and return what it returns."""
        with self.trial() as shop:
            return action(shop)
