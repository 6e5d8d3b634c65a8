"""The bench: told equations about unknown members."""

from equalkin.algebras import check_known, many_tuples, tuples_of
from equalkin.errors import BadName, Clash, NothingDone, NotTold, TooMany, TwiceTold, UnknownName
from equalkin.terms import check_term, term_row, unknowns
from equalkin.words import is_word

_MOST_WAYS = 4096


class Bench:
    """A bench of told equations about unknown members of an algebra.

    The ways to choose members for the names have numbers, and a set of ways is kept as a number in which the bit in
    the place of each one of them is 1.
    """

    def __init__(self, algebra, names):
        _check_names(names)
        if many_tuples(len(algebra), len(names)) > _MOST_WAYS:
            raise TooMany()
        choices = tuples_of(algebra.members(), len(names))
        self.algebra = algebra
        self._columns = {name: [row[place] for row in choices] for place, name in enumerate(names)}
        self._many = len(choices)
        # The lists of told equations are never changed, only replaced, so that those of the past stay as they were.
        self._told = []
        self._past = []

    def names(self):
        """Return the list of the names."""
        return list(self._columns)

    def told(self):
        """Return the list of the tuples (label, left, right) in the order in which they were told."""
        return [(label, left, right) for label, left, right, _ in self._told]

    def __contains__(self, label):
        return label in [entry[0] for entry in self._told]

    def __len__(self):
        return len(self._told)

    def tell(self, label, left, right):
        """Tell an equation, which must not clash with those that are told."""
        if not is_word(label):
            raise BadName(label)
        if label in self:
            raise TwiceTold(label)
        self._check_sides(left, right)
        told = [*self._told, (label, left, right, self._ways_with(left, right))]
        if _shared(self._all_ways(), told) == 0:
            raise Clash(_needed(self._all_ways(), told))
        self._put(told)

    def drop(self, label):
        """Take a told equation away."""
        if label not in self:
            raise NotTold(label)
        self._put([entry for entry in self._told if entry[0] != label])

    def undo(self):
        """Take the last change that was not taken back yet back."""
        if len(self._past) == 0:
            raise NothingDone()
        self._told = self._past[-1]
        self._past = self._past[:-1]

    def ways(self):
        """Return the number of ways to choose members for the names that meet all told equations."""
        ways = self._open_ways()
        bits = f"{ways:b}"
        return bits.count("1")

    def can_be(self, name):
        """Return the list of the members that the name has in some of these ways."""
        self._check_name(name)
        ways = self._open_ways()
        return [member for member in self.algebra.members() if ways & self._ways_of(name, member) != 0]

    def follows(self, left, right):
        """Tell whether the sides have the same value in all of these ways."""
        self._check_sides(left, right)
        ways = self._open_ways()
        return ways & self._ways_with(left, right) == ways

    def why(self, name, member):
        """Return labels of told equations for which the name cannot be this member, and None if it can."""
        self._check_name(name)
        check_known(self.algebra, [member])
        ways = self._ways_of(name, member)
        if _shared(ways, self._told) != 0:
            return None
        return _needed(ways, self._told)

    def attempt(self, action):
        """Call action with the bench, which is left as it was if an error leaves action."""
        told, past = self._told, self._past
        done = None
        try:
            answer = action(self)
            done = True
        finally:
            if done is None:
                self._told = told
                self._past = past
        return answer

    def _put(self, told):
        self._past = [*self._past, self._told]
        self._told = told

    def _check_name(self, name):
        if name not in self._columns:
            raise UnknownName(name)

    def _check_sides(self, left, right):
        check_term(self.algebra, left)
        check_term(self.algebra, right)
        for name in [*unknowns(left), *unknowns(right)]:
            self._check_name(name)

    def _all_ways(self):
        return (1 << self._many) - 1

    def _open_ways(self):
        return _shared(self._all_ways(), self._told)

    def _ways_with(self, left, right):
        """Return the ways in which the two sides have the same value."""
        lefts = term_row(self.algebra, left, self._columns, self._many)
        rights = term_row(self.algebra, right, self._columns, self._many)
        return _bits([one == two for one, two in zip(lefts, rights)])

    def _ways_of(self, name, member):
        """Return the ways in which the name has this member."""
        return _bits([one == member for one in self._columns[name]])


def _check_names(names):
    known = {}
    for name in names:
        if not is_word(name):
            raise BadName(name)
        if name in known:
            raise TwiceTold(name)
        known[name] = True


def _bits(truths):
    """Return the number that has the bit 1 in just the places of the truths that are True."""
    bits = 0
    for place, truth in enumerate(truths):
        if truth:
            bits = bits | (1 << place)
    return bits


def _shared(ways, entries):
    """Return those of the ways that meet all equations."""
    for entry in entries:
        ways = ways & entry[3]
    return ways


def _needed(ways, entries):
    """Return the labels of equations that none of the ways meets together, and of which none can be left out."""
    kept = entries
    for entry in entries:
        fewer = [other for other in kept if other[0] != entry[0]]
        if _shared(ways, fewer) == 0:
            kept = fewer
    return [label for label, _, _, _ in kept]
