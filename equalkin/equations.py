"""Equations: two terms that may have the same value for all members in the places of their unknowns."""

from equalkin.algebras import tuples_of
from equalkin.terms import check_term, term_row, unknowns

# A fault mostly shows at once, so the ways to choose values are not all worked out ahead.
_AT_ONCE = 500


def fails(algebra, left, right):
    """Return the dict of the first values for which the sides are unlike, and None if there are none."""
    check_term(algebra, left)
    check_term(algebra, right)
    names = unknowns(left)
    names.extend([name for name in unknowns(right) if name not in names])
    choices = tuples_of(algebra.members(), len(names))
    for start in range(0, len(choices), _AT_ONCE):
        row = _first_unlike(algebra, left, right, names, choices[start:start + _AT_ONCE])
        if row is not None:
            return dict(zip(names, row))
    return None


def _first_unlike(algebra, left, right, names, choices):
    columns = {name: [row[place] for row in choices] for place, name in enumerate(names)}
    lefts = term_row(algebra, left, columns, len(choices))
    rights = term_row(algebra, right, columns, len(choices))
    for number, choice in enumerate(choices):
        if lefts[number] != rights[number]:
            return choice
    return None
