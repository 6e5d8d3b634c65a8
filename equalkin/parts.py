"""Parts of an algebra: sets of members that have the values of all operations for arguments in them."""

from itertools import combinations

from equalkin.algebras import check_known, made_algebra, tuples_of
from equalkin.errors import NoMembers, NotClosed, TooMany

_MOST_MEMBERS = 8


def closed(algebra, members):
    """Return the list of the least part that has these members, in the algebra's order."""
    check_known(algebra, members)
    waiting = [algebra.value(sign, []) for sign, arity in algebra.signature if arity == 0]
    waiting.extend(list(members))
    found = {}
    while waiting:
        name = waiting.pop()
        if name not in found:
            found[name] = True
            waiting.extend(_values_with(algebra, name, list(found)))
    return [name for name in algebra.members() if name in found]


def _values_with(algebra, name, others):
    """Return the values for arguments of which one is name and each further one is among others."""
    values = []
    for sign, arity in algebra.signature:
        if arity == 1:
            values.append(algebra.value(sign, [name]))
        if arity == 2:
            values.extend([algebra.value(sign, [name, other]) for other in others])
            values.extend([algebra.value(sign, [other, name]) for other in others])
    return values


def part(algebra, members):
    """Return the algebra of these members, which make a part."""
    check_known(algebra, members)
    if len(members) == 0:
        raise NoMembers()
    names = [name for name in algebra.members() if name in members]
    operations = [(sign, arity, _values_within(algebra, sign, arity, names)) for sign, arity in algebra.signature]
    return made_algebra(names, operations)


def _values_within(algebra, sign, arity, names):
    values = []
    for arguments in tuples_of(names, arity):
        value = algebra.value(sign, arguments)
        if value not in names:
            raise NotClosed(sign, arguments)
        values.append(value)
    return values


def term_to(algebra, members, goal):
    """Return a term of least depth with the value goal, its unknowns standing for the entries of members."""
    check_known(algebra, members)
    check_known(algebra, [goal])
    best = _unknown_terms(members)
    while goal not in best:
        deeper = _one_deeper(algebra, best)
        if len(deeper) == len(best):
            return None
        best = deeper
    return best[goal][1]


def terms_to(algebra, members):
    """Return, by all members of the least part that has these ones, the terms that term_to tells.

    They are put as tuples (depth, number of parts, term).
    """
    told = {}
    best = _unknown_terms(members)
    level = 0
    settled = False
    while not settled:
        for name in best:
            told.setdefault(name, (level, *best[name]))
        best = _one_deeper(algebra, best)
        level += 1
        settled = len(best) == len(told)
    return told


def _unknown_terms(members):
    best = {}
    for number, name in enumerate(members):
        if name not in best:
            best[name] = (1, f"x{number}")
    return best


def _one_deeper(algebra, best):
    """Return the terms of fewest parts, by their values, that are at most one sign deeper than the best ones.

    The best ones are tuples (number of parts, term). Terms of one depth can grow to twice the parts with each
    sign, and a member that is known already may have a deeper term of fewer parts, so the parts are counted.
    """
    deeper = dict(best)
    for sign, arity in algebra.signature:
        for arguments in tuples_of(list(best), arity):
            value = algebra.value(sign, arguments)
            many = 1 + sum([best[name][0] for name in arguments])
            if value not in deeper or many < deeper[value][0]:
                deeper[value] = (many, (sign, *[best[name][1] for name in arguments]))
    return deeper


def all_parts(algebra):
    """Return the list of all parts that have a member: shorter ones first, then by their members' places."""
    _check_many(algebra)
    return [row for row in _choices(algebra) if len(row) > 0 and closed(algebra, row) == row]


def generators(algebra):
    """Return the first one of the shortest lists of members whose least part is the whole algebra."""
    _check_many(algebra)
    for row in _choices(algebra):
        if len(closed(algebra, row)) == len(algebra):
            return row


def _check_many(algebra):
    if len(algebra) > _MOST_MEMBERS:
        raise TooMany()


def _choices(algebra):
    """Return all lists of members in the algebra's order: shorter ones first, then by their members' places."""
    names = algebra.members()
    return [list(row) for count in range(len(names) + 1) for row in combinations(names, count)]
