"""Algebras: finitely many members and finitely many operations on them."""

from equalkin.errors import BadAlgebra, BadCount, MixedSigns, UnknownMember, UnknownSign
from equalkin.words import is_plain, is_word

_MOST_MEMBERS = 6
_MOST_OPERATIONS = 5
_MOST_BITS = 2


class Algebra:
    """An algebra that is told by its members and the values of its operations."""

    def __init__(self, members, operations):
        _check_members(members)
        _check_operations(members, operations)
        self._fill(members, operations)

    def _fill(self, members, operations):
        self.signature = tuple([(sign, arity) for sign, arity, _ in operations])
        self._names = list(members)
        self._places = {name: place for place, name in enumerate(self._names)}
        self._arities = {sign: arity for sign, arity, _ in operations}
        self._tables = {sign: list(values) for sign, _, values in operations}

    def members(self):
        """Return the list of the members, in order."""
        return list(self._names)

    def value(self, sign, arguments):
        """Return the member that the operation with this sign gives to the arguments."""
        if sign not in self._arities:
            raise UnknownSign(sign)
        if len(arguments) != self._arities[sign]:
            raise BadCount()
        # Tuples of arguments are ordered as numbers are whose digits are the places.
        row = 0
        for name in arguments:
            if name not in self:
                raise UnknownMember(name)
            row = row * len(self._names) + self._places[name]
        return self._tables[sign][row]

    def __contains__(self, name):
        # What is no string may be unfit to be looked up in a dict.
        return isinstance(name, str) and name in self._places

    def __len__(self):
        return len(self._names)

    def __eq__(self, other):
        if not isinstance(other, Algebra):
            return False
        if self.signature != other.signature or self._names != other._names:
            return False
        return self._tables == other._tables


class TurnAlgebra(Algebra):
    """The numbers below count, added up to the remainder by count."""

    def __init__(self, count):
        names = _number_names(count)
        places = range(count)
        sums = [names[(one + two) % count] for one in places for two in places]
        backs = [names[(count - one) % count] for one in places]
        Algebra.__init__(self, names, [("add", 2, sums), ("back", 1, backs), ("zero", 0, names[:1])])


class ChainAlgebra(Algebra):
    """The numbers below count with the lesser and the greater one of two."""

    def __init__(self, count):
        names = _number_names(count)
        places = range(count)
        lows = [names[min(one, two)] for one in places for two in places]
        highs = [names[max(one, two)] for one in places for two in places]
        Algebra.__init__(self, names, [("low", 2, lows), ("high", 2, highs)])


class PickAlgebra(Algebra):
    """The numbers below count with the first one of two."""

    def __init__(self, count):
        names = _number_names(count)
        picks = [one for one in names for _ in names]
        Algebra.__init__(self, names, [("pick", 2, picks)])


class SetAlgebra(Algebra):
    """The strings of count characters 0 and 1, worked on place by place."""

    def __init__(self, count):
        names = _bit_names(count)
        # A member's characters are the bits of its place, so operators of bits work on all of them at once.
        places = range(len(names))
        ands = [names[one & two] for one in places for two in places]
        ors = [names[one | two] for one in places for two in places]
        Algebra.__init__(self, names, [
            ("and", 2, ands), ("or", 2, ors), ("not", 1, names[::-1]), ("none", 0, names[:1]), ("all", 0, names[-1:]),
        ])


def made_algebra(members, operations):
    """Return the algebra of any number of members from 1 on, any unlike strings; no faults are looked for."""
    # Algebra looks for faults in what it is given, so it is given what has none.
    algebra = Algebra(["0"], [])
    algebra._fill(members, operations)
    return algebra


def check_known(algebra, names):
    """Raise UnknownMember for the first of the names that is no member."""
    for name in names:
        if name not in algebra:
            raise UnknownMember(name)


def check_signs(first, second):
    """Raise MixedSigns if the two algebras have not the same signature."""
    if first.signature != second.signature:
        raise MixedSigns()


def tuples_of(things, count):
    """Return the list of all tuples of so many of the things, in order: the first entries decide first."""
    rows = [()]
    for _ in range(count):
        rows = [(*row, thing) for row in rows for thing in things]
    return rows


def many_tuples(many, count):
    """Return the number of tuples of count things where there are so many things, without making the tuples."""
    found = 1
    for _ in range(count):
        found = found * many
    return found


def value_row(algebra, sign, rows, width):
    """Return the list of the values, place by place, for rows of width members, one row for each argument."""
    places = algebra._places
    spots = [0] * width
    for row in rows:
        spots = [spot * len(places) + places[name] for spot, name in zip(spots, row)]
    table = algebra._tables[sign]
    return [table[spot] for spot in spots]


def _check_members(members):
    if not 1 <= len(members) <= _MOST_MEMBERS:
        raise BadAlgebra()
    if not all([is_plain(name) for name in members]):
        raise BadAlgebra()
    if len(set(members)) < len(members):
        raise BadAlgebra()


def _check_operations(members, operations):
    if len(operations) > _MOST_OPERATIONS:
        raise BadAlgebra()
    signs = []
    for sign, arity, values in operations:
        if not is_word(sign) or sign in signs:
            raise BadAlgebra()
        signs.append(sign)
        _check_values(members, arity, values)


def _check_values(members, arity, values):
    # True and False are no arities, though Python takes them for 1 and 0.
    if not isinstance(arity, int) or isinstance(arity, bool) or not 0 <= arity <= 2:
        raise BadAlgebra()
    tuples = (1, len(members), len(members) * len(members))
    if len(values) != tuples[arity]:
        raise BadAlgebra()
    if not all([name in members for name in values]):
        raise BadAlgebra()


def _number_names(count):
    if not 1 <= count <= _MOST_MEMBERS:
        raise BadAlgebra()
    return [str(number) for number in range(count)]


def _bit_names(count):
    if not 1 <= count <= _MOST_BITS:
        raise BadAlgebra()
    names = [""]
    for _ in range(count):
        names = [name + bit for name in names for bit in "01"]
    return names
