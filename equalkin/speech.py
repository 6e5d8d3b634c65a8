"""Speech: which operations on the members of an algebra its terms make."""

from equalkin.algebras import check_known, made_algebra, many_tuples, tuples_of, value_row
from equalkin.equations import fails
from equalkin.errors import BadCount, BadTerm, MixedMembers, NoMembers
from equalkin.free import Free, least_rows
from equalkin.terms import is_term

_MOST_ARITY = 3
_NEW = "new"


def made_by(algebra, arity, values):
    """Return a term of least depth over so many unknowns that has these values, and None if there is none."""
    _check_values(algebra, arity, values)
    free = _free_or_none(algebra, arity)
    if free is None:
        return None
    for name in free.algebra.members():
        if free.row(name) == list(values):
            return free.term(name)
    return None


def _check_values(algebra, arity, values):
    _check_arity(arity)
    if len(values) != many_tuples(len(algebra), arity):
        raise BadCount()
    check_known(algebra, values)


def _check_arity(arity):
    if not 0 <= arity <= _MOST_ARITY:
        raise BadCount()


def _free_or_none(algebra, count):
    """Return the free algebra over so many unknowns, and None if there is no term."""
    try:
        return Free(algebra, count)
    except NoMembers:
        return None


def bar(algebra, arity, values):
    """Return rows whose row of values no term makes of them, and None if a term has these values."""
    if made_by(algebra, arity, values) is not None:
        return None
    # The rows that the unknowns have everywhere: a term makes of them the row of all of its values.
    lists = tuples_of(algebra.members(), arity)
    return [[row[place] for row in lists] for place in range(arity)]


def judge_bar(algebra, arity, values, rows):
    """Tell whether these are as many rows as arity, the row of values for which is in no part that has them."""
    _check_values(algebra, arity, values)
    if not _are_rows(algebra, arity, rows):
        return False
    width = len(rows[0]) if rows else 1
    asked = made_algebra(algebra.members(), [(_NEW, arity, values)])
    goal = tuple(value_row(asked, _NEW, rows, width))
    return goal not in least_rows(algebra, [tuple(row) for row in rows], width)


def _are_rows(algebra, many, rows):
    if not isinstance(rows, (list, tuple)) or len(rows) != many:
        return False
    if not all([isinstance(row, (list, tuple)) for row in rows]):
        return False
    if not all([len(row) == len(rows[0]) for row in rows]):
        return False
    return all([name in algebra for row in rows for name in row])


def speaks(first, second):
    """Return terms that make the second algebra's operations in the first one, and None if one is not made."""
    if first.members() != second.members():
        raise MixedMembers()
    found = []
    for sign, arity in second.signature:
        term = made_by(first, arity, [second.value(sign, row) for row in tuples_of(second.members(), arity)])
        if term is None:
            return None
        found.append(term)
    return found


def wanted(algebra, arity, equations):
    """Return a term of least depth over so many unknowns with which, in the place of "new", all equations hold."""
    _check_arity(arity)
    signature = (*algebra.signature, (_NEW, arity))
    if not all([is_term(signature, side) for equation in equations for side in equation]):
        raise BadTerm()
    free = _free_or_none(algebra, arity)
    if free is None:
        return None
    members = algebra.members()
    operations = [
        (sign, many, [algebra.value(sign, row) for row in tuples_of(members, many)]) for sign, many in algebra.signature
    ]
    for name in free.by_depth():
        richer = made_algebra(members, [*operations, (_NEW, arity, free.row(name))])
        if _all_hold(richer, equations):
            return free.term(name)
    return None


def _all_hold(algebra, equations):
    for left, right in equations:
        if fails(algebra, left, right) is not None:
            return False
    return True
